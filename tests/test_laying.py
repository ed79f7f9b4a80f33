import unittest

from drawnanew.errors import NoNode, NotOnePage
from drawnanew.laying import Laid, measure
from drawnanew.pages import Page
from drawnanew.patches import Patches, between
from tests.helpers import chain, dice, flat, node, random_root

# The root is a column of a row (4 wide and 2 wide), a text and an empty row.
INNER = node("c", "col", node("c1", "ab"), node("c2", "a"))
ROOT = node("r", "col", node("a", "row", node("b", "text"), INNER), node("d", "button"), node("e", "row"))
PAGE = Page(ROOT)
PLACES = {
    "r": (0, 0, 6, 3), "a": (0, 0, 6, 2), "b": (0, 0, 4, 1), "c": (4, 0, 2, 2), "c1": (4, 0, 2, 1),
    "c2": (4, 1, 1, 1), "d": (0, 2, 6, 1), "e": (0, 3, 0, 0),
}


def sized(root):
    """The size of a node by a way of its own."""
    sizes = [sized(child) for child in root[2]]
    if not sizes:
        return (0, 0) if root[1] in ("row", "col") else (len(root[1]), 1)
    wide, high = [size[0] for size in sizes], [size[1] for size in sizes]
    return (sum(wide), max(high)) if root[1] == "row" else (max(wide), sum(high))


def placed(root, x=0, y=0):
    """The rectangles by mark, by a way of its own."""
    places = {root[0]: (x, y, *sized(root))}
    for child in root[2]:
        places.update(placed(child, x, y))
        if root[1] == "row":
            x = x + sized(child)[0]
        else:
            y = y + sized(child)[1]
    return places


def behind_children(root):
    return [mark for child in root[2] for mark in behind_children(child)] + [root[0]]


def measured_again(old, new):
    def told(page, mark):
        return (page[mark][1], [sized(child) for child in page[mark][2]])

    return tuple([m for m in behind_children(new.top) if m not in old or told(old, m) != told(new, m)])


def levels(page, mark):
    return 0 if mark is None else 1 + levels(page, page.parent(mark))


class Measure(unittest.TestCase):
    def test_without_children(self):
        self.assertEqual(measure("text 1", ()), (6, 1))
        self.assertEqual(measure("x", ()), (1, 1))
        self.assertEqual(measure("a" * 20, ()), (20, 1))
        self.assertEqual(measure("rows", ()), (4, 1))
        self.assertEqual(measure("col ", ()), (4, 1))

    def test_empty_row_and_col(self):
        self.assertEqual((measure("row", ()), measure("col", ())), ((0, 0), (0, 0)))

    def test_row(self):
        self.assertEqual(measure("row", ((3, 1), (2, 5), (4, 2))), (9, 5))
        self.assertEqual(measure("row", ((3, 1),)), (3, 1))

    def test_col_and_every_other_label(self):
        for label in ("col", "text 1", "a very long label at", "ROW", "row "):
            self.assertEqual(measure(label, ((3, 1), (2, 5), (4, 2))), (4, 8))
            self.assertEqual(measure(label, ((0, 0),)), (0, 0))

    def test_children_without_size(self):
        self.assertEqual(measure("row", ((0, 0), (0, 0))), (0, 0))
        self.assertEqual(measure("row", ((0, 0), (2, 1))), (2, 1))


class Places(unittest.TestCase):
    def test_rectangles(self):
        laid = Laid(PAGE)
        self.assertEqual({mark: laid[mark] for mark in PLACES}, PLACES)

    def test_properties(self):
        laid = Laid(PAGE)
        self.assertIs(laid.page, PAGE)
        self.assertEqual(laid.size, (6, 3))
        self.assertEqual(Laid(Page(node("r", "abc"))).size, (3, 1))
        self.assertEqual(Laid(Page(node("r", "row"))).size, (0, 0))

    def test_iterating(self):
        self.assertEqual(list(Laid(PAGE)), list(PAGE))

    def test_no_node(self):
        for mark in ("", "x", "R", "text"):
            with self.assertRaises(NoNode) as caught:
                Laid(PAGE)[mark]
            self.assertEqual(caught.exception.mark, mark)

    def test_big_pages(self):
        self.assertEqual(Laid(Page(chain(60))).size, (3, 1))
        laid = Laid(Page(flat(400)))
        self.assertEqual((laid.size, laid["n398"], laid.hit(0, 398)), ((1, 399), (0, 398, 1, 1), "n398"))

    def test_at_random(self):
        chance = dice(17)
        for _ in range(150):
            page = Page(random_root(chance, list("rabcdefghij")))
            laid = Laid(page)
            places = placed(page.top)
            self.assertEqual({mark: laid[mark] for mark in page}, places)
            self.assertEqual(laid.size, sized(page.top))
            for x in range(-1, laid.size[0] + 1):
                for y in range(-1, laid.size[1] + 1):
                    held = [m for m, (a, b, w, h) in places.items() if a <= x < a + w and b <= y < b + h]
                    held = sorted(held, key=lambda mark: levels(page, mark))
                    self.assertEqual(laid.hit(x, y), held[-1] if held else None)


class Hits(unittest.TestCase):
    def test_inside(self):
        laid = Laid(PAGE)
        points = {(1, 0): "b", (5, 0): "c1", (4, 1): "c2", (5, 1): "c", (2, 1): "a", (3, 2): "d"}
        self.assertEqual({point: laid.hit(*point) for point in points}, points)

    def test_edges(self):
        laid = Laid(PAGE)
        points = {
            (0, 0): "b", (3, 0): "b", (4, 0): "c1", (5, 0): "c1", (6, 0): None, (-1, 0): None, (0, -1): None,
            (0, 2): "d", (5, 2): "d", (6, 2): None, (0, 3): None,
        }
        self.assertEqual({point: laid.hit(*point) for point in points}, points)

    def test_outside(self):
        laid = Laid(PAGE)
        for x, y in ((-1, -1), (6, 3), (100, 1), (1, 100), (10 ** 39, 0), (0, -10 ** 39)):
            self.assertIsNone(laid.hit(x, y))

    def test_without_size(self):
        laid = Laid(Page(node("r", "row")))
        self.assertIsNone(laid.hit(0, 0))
        laid = Laid(Page(node("r", "col", node("a", "row"), node("b", "x"))))
        self.assertEqual((laid["a"], laid.hit(0, 0)), ((0, 0, 0, 0), "b"))

    def test_part_of_a_parent_that_no_child_fills(self):
        laid = Laid(Page(node("r", "col", node("a", "abc"), node("b", "a"))))
        self.assertEqual((laid.hit(0, 1), laid.hit(1, 1), laid.hit(2, 1)), ("b", "r", "r"))


class Taking(unittest.TestCase):
    def took(self, *rows):
        laid = Laid(PAGE)
        patches = Patches(PAGE, list(rows))
        told = laid.take(patches)
        self.assertEqual(laid.page, patches.end)
        fresh = Laid(patches.end)
        self.assertEqual(list(laid), list(fresh))
        self.assertEqual([laid[mark] for mark in laid], [fresh[mark] for mark in fresh])
        self.assertEqual(laid.size, fresh.size)
        self.assertEqual(told, measured_again(PAGE, patches.end))
        return told

    def test_nothing(self):
        self.assertEqual(self.took(), ())

    def test_label_of_the_same_size(self):
        self.assertEqual(self.took(("say", "b", "told")), ("b",))

    def test_label_of_another_size(self):
        self.assertEqual(self.took(("say", "b", "longer")), ("b", "a", "r"))
        self.assertEqual(self.took(("say", "c2", "xy")), ("c2", "c"))
        self.assertEqual(self.took(("say", "d", "wide button")), ("d", "r"))

    def test_same_label(self):
        self.assertEqual(self.took(("say", "b", "text")), ())

    def test_label_of_a_parent(self):
        self.assertEqual(self.took(("say", "a", "col")), ("a", "r"))
        self.assertEqual(self.took(("say", "a", "other")), ("a", "r"))

    def test_put(self):
        self.assertEqual(self.took(("put", "e", 0, node("n", "row", node("m", "x")))), ("m", "n", "e", "r"))
        self.assertEqual(self.took(("put", "r", 0, node("n", "row", node("m", "x"), node("o", "y")))),
                         ("m", "o", "n", "r"))

    def test_drop(self):
        self.assertEqual(self.took(("drop", "c1")), ("c", "a", "r"))
        self.assertEqual(self.took(("drop", "e")), ("r",))

    def test_move(self):
        self.assertEqual(self.took(("move", "c", 0)), ("a",))
        self.assertEqual(self.took(("move", "c1", 1)), ("c",))

    def test_children_of_the_same_sizes(self):
        self.assertEqual(self.took(("drop", "b"), ("put", "a", 0, node("n", "told"))), ("n",))

    def test_mark_that_comes_again(self):
        self.assertEqual(self.took(("drop", "d"), ("put", "r", 1, node("d", "button"))), ())
        self.assertEqual(self.took(("drop", "d"), ("put", "r", 1, node("d", "wooden"))), ("d",))
        self.assertEqual(self.took(("drop", "d"), ("put", "e", 0, node("d", "button"))), ("e", "r"))

    def test_one_after_the_other(self):
        laid = Laid(PAGE)
        first = Patches(PAGE, [("say", "b", "longer")])
        laid.take(first)
        self.assertEqual(laid.take(-first), ("b", "a", "r"))
        self.assertEqual((laid.page, laid["c"]), (PAGE, PLACES["c"]))

    def test_not_one_page(self):
        laid = Laid(PAGE)
        for page, mark in ((Page(node("s", "x")), "s"), (Page(node("r", "x")), "r")):
            with self.assertRaises(NotOnePage) as caught:
                laid.take(Patches(page, [("say", mark, "y")]))
            self.assertEqual(caught.exception.mark, mark)
            self.assertIs(laid.page, PAGE)
            self.assertEqual({told: laid[told] for told in laid}, PLACES)
        self.assertEqual(laid.take(Patches(PAGE, [("say", "b", "told")])), ("b",))

    def test_equal_page(self):
        laid = Laid(PAGE)
        self.assertEqual(laid.take(Patches(Page(ROOT), [("drop", "e")])), ("r",))

    def test_at_random(self):
        chance = dice(19)
        for _ in range(150):
            old, new = [Page(random_root(chance, ["r"] + chance.sample(list("abcdefghij"), 7))) for _ in range(2)]
            laid = Laid(old)
            self.assertEqual(laid.take(between(old, new)), measured_again(old, new))
            self.assertEqual({mark: laid[mark] for mark in laid}, placed(new.top))


if __name__ == "__main__":
    unittest.main()
