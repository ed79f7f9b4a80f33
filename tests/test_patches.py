import unittest

from drawnanew.errors import BadPatch, BadPlace, NoNode, NotOnePage, RootStays, ScreenError, TooMany, TwiceMarked
from drawnanew.pages import Page
from drawnanew.patches import Patches
from tests.helpers import chain, dice, flat, node, outline, random_page, random_root, tree

PAGE = tree("r(a(b c) d e(f))")


def end(*rows):
    return outline(Patches(PAGE, list(rows)).end)


def thawed(root):
    return [root[0], root[1], [thawed(child) for child in root[2]]]


def frozen(root):
    return (root[0], root[1], tuple([frozen(child) for child in root[2]]))


def found(root, mark, above=None):
    """The node with the mark, and its parent, in a tree of lists."""
    if root[0] == mark:
        return root, above
    for child in root[2]:
        pair = found(child, mark, root)
        if pair:
            return pair
    return None


def changed(root, patch):
    """The root behind a patch, worked out in place on a tree of lists."""
    root = thawed(root)
    it, above = found(root, patch[1])
    if patch[0] == "say":
        it[1] = patch[2]
    elif patch[0] == "put":
        it[2].insert(patch[2], thawed(patch[3]))
    else:
        above[2].remove(it)
        if patch[0] == "move":
            above[2].insert(patch[2], it)
    return frozen(root)


def random_patch(chance, page, fresh):
    marks = list(page)
    mark = chance.choice(marks)
    word = chance.choice(["drop", "put", "move", "say"] if mark != "r" else ["put", "say"])
    if word == "drop":
        return ("drop", mark)
    if word == "say":
        return ("say", mark, chance.choice(["x", "row", "button a", ""]))
    if word == "move":
        return ("move", mark, chance.randrange(len(page[page.parent(mark)][2])))
    left = [name for name in fresh if name not in page]
    if not left:
        return ("say", mark, "full")
    put = random_root(chance, chance.sample(left, chance.randrange(1, min(3, len(left)) + 1)))
    return ("put", mark, chance.randrange(len(page[mark][2]) + 1), put)


class FourPatches(unittest.TestCase):
    def test_drop(self):
        self.assertEqual(end(("drop", "a")), "r(d e(f))")
        self.assertEqual(end(("drop", "d")), "r(a(b c) e(f))")
        self.assertEqual(end(("drop", "e")), "r(a(b c) d)")
        self.assertEqual(end(("drop", "f")), "r(a(b c) d e)")

    def test_put_at_every_index(self):
        told = ["r(n a(b c) d e(f))", "r(a(b c) n d e(f))", "r(a(b c) d n e(f))", "r(a(b c) d e(f) n)"]
        self.assertEqual([end(("put", "r", at, node("n"))) for at in range(4)], told)

    def test_put_with_nodes_beneath(self):
        self.assertEqual(end(("put", "d", 0, node("n", "x", node("m"), node("o")))), "r(a(b c) d(n(m o)) e(f))")
        self.assertEqual(end(("put", "f", 0, node("n"))), "r(a(b c) d e(f(n)))")

    def test_put_keeps_labels(self):
        made = node("n", "row", node("m", "text 1"))
        self.assertEqual(Patches(PAGE, [("put", "a", 1, made)]).end["n"], made)

    def test_move_to_every_index(self):
        self.assertEqual(
            [end(("move", "a", at)) for at in range(3)], ["r(a(b c) d e(f))", "r(d a(b c) e(f))", "r(d e(f) a(b c))"]
        )
        self.assertEqual(
            [end(("move", "e", at)) for at in range(3)], ["r(e(f) a(b c) d)", "r(a(b c) e(f) d)", "r(a(b c) d e(f))"]
        )
        self.assertEqual([end(("move", "c", at)) for at in range(2)], ["r(a(c b) d e(f))", "r(a(b c) d e(f))"])
        self.assertEqual(end(("move", "f", 0)), "r(a(b c) d e(f))")

    def test_say(self):
        for mark in PAGE:
            behind = Patches(PAGE, [("say", mark, "new")]).end
            self.assertEqual(behind[mark], (mark, "new", PAGE[mark][2]))
            self.assertEqual(outline(behind), outline(PAGE))
            self.assertEqual([other for other in PAGE if behind[other][1] != PAGE[other][1]], [mark])

    def test_say_the_same(self):
        self.assertEqual(Patches(PAGE, [("say", "a", "at a")]).end, PAGE)

    def test_one_after_the_other(self):
        rows = [
            ("put", "d", 0, node("n", "n")), ("move", "d", 0), ("put", "n", 0, node("m", "m")), ("drop", "a"),
            ("put", "m", 0, node("a", "a")), ("move", "e", 0), ("say", "a", "new"), ("drop", "n"),
        ]
        told = [
            "r(a(b c) d e(f))", "r(a(b c) d(n) e(f))", "r(d(n) a(b c) e(f))", "r(d(n(m)) a(b c) e(f))",
            "r(d(n(m)) e(f))", "r(d(n(m(a))) e(f))", "r(e(f) d(n(m(a))))", "r(e(f) d(n(m(a))))", "r(e(f) d)",
        ]
        self.assertEqual([end(*rows[:many]) for many in range(len(rows) + 1)], told)

    def test_a_mark_may_come_again(self):
        self.assertEqual(end(("drop", "a"), ("put", "r", 0, node("b", "b"))), "r(b d e(f))")

    def test_no_patches(self):
        empty = Patches(PAGE, [])
        self.assertEqual((empty.end, empty.page, empty.many, list(empty)), (PAGE, PAGE, 0, []))

    def test_at_random(self):
        chance = dice(5)
        pool = [f"n{k}" for k in range(9)]
        for _ in range(150):
            page = random_page(chance, pool)
            root, rows = page.top, []
            for _ in range(8):
                rows.append(random_patch(chance, Page(root), pool))
                root = changed(root, rows[-1])
                self.assertEqual(Patches(page, rows).end.top, root)
            self.assertEqual((-Patches(page, rows)).end, page)

    def test_page_of_60_levels(self):
        page = Page(chain(60))
        patches = Patches(page, [("say", "59", "last"), ("put", "58", 0, node("n")), ("move", "59", 0)])
        self.assertEqual(patches.end["58"], ("58", "col", (("59", "last", ()), ("n", "col", ()))))
        self.assertEqual((-patches).end, page)


class Kept(unittest.TestCase):
    def test_properties(self):
        rows = [("drop", "a"), ("say", "d", "x")]
        patches = Patches(PAGE, rows)
        self.assertIs(patches.page, PAGE)
        self.assertEqual((patches.many, list(patches)), (2, rows))
        self.assertIsInstance(patches.end, Page)

    def test_page_and_list_stay(self):
        page, rows = tree("r(a(b c) d e(f))"), [("drop", "a"), ("move", "e", 0)]
        patches = Patches(page, rows)
        self.assertEqual((page, rows), (PAGE, [("drop", "a"), ("move", "e", 0)]))
        rows.clear()
        self.assertEqual((patches.many, list(patches)), (2, [("drop", "a"), ("move", "e", 0)]))

    def test_page_and_list_stay_behind_an_error(self):
        page, rows = tree("r(a(b c) d e(f))"), [("drop", "a"), ("drop", "a")]
        with self.assertRaises(NoNode):
            Patches(page, rows)
        self.assertEqual((page, rows), (PAGE, [("drop", "a"), ("drop", "a")]))


class Errors(unittest.TestCase):
    def refused(self, error, *rows, page=PAGE):
        with self.assertRaises(ScreenError) as caught:
            Patches(page, list(rows))
        self.assertIs(type(caught.exception), error)
        (told,) = vars(caught.exception).values()
        return told

    def test_bad_patch(self):
        cases = [
            (), ("drop",), ("drop", "a", 0), ("put", "a", 0), ("put", "a", 0, node("n"), 1), ("move", "a"),
            ("move", "a", 0, 0), ("say", "a"), ("say", "a", "x", "y"), ("fly", "a"), ("", "a"), (None, "a"),
            (1, "a"), ("Drop", "a"), (["drop"], "a"), ["drop", "a"], [],
        ]
        for patch in cases:
            with self.subTest(patch):
                self.assertEqual(self.refused(BadPatch, patch), patch)

    def test_no_node(self):
        for mark in ("x", "", "A"):
            for patch in (("drop", mark), ("put", mark, 0, node("n")), ("move", mark, 0), ("say", mark, "x")):
                self.assertEqual(self.refused(NoNode, patch), mark)

    def test_no_node_behind_a_drop(self):
        self.assertEqual(self.refused(NoNode, ("drop", "a"), ("say", "b", "x")), "b")

    def test_root_stays(self):
        self.assertEqual(self.refused(RootStays, ("drop", "r")), "r")
        self.assertEqual(self.refused(RootStays, ("move", "r", 0)), "r")

    def test_bad_place_of_put(self):
        for mark, many in (("r", 3), ("a", 2), ("d", 0), ("e", 1)):
            for at in (-1, many + 1, 10 ** 39, -10 ** 39):
                self.assertEqual(self.refused(BadPlace, ("put", mark, at, node("n"))), at)

    def test_bad_place_of_move(self):
        for mark, most in (("a", 2), ("e", 2), ("b", 1), ("f", 0)):
            for at in (-1, most + 1, 400):
                self.assertEqual(self.refused(BadPlace, ("move", mark, at)), at)

    def test_true_and_false_are_no_place(self):
        for at in (True, False):
            self.assertIs(self.refused(BadPlace, ("put", "a", at, node("n"))), at)
            self.assertIs(self.refused(BadPlace, ("move", "a", at)), at)

    def test_twice_marked(self):
        cases = [
            (node("a"), "a"), (node("r"), "r"), (node("n", "x", node("n")), "n"),
            (node("n", "x", node("m"), node("o"), node("o"), node("a")), "o"),
            (node("n", "x", node("m"), node("f"), node("m")), "f"),
            (node("n", "x", node("m", "x", node("d")), node("a")), "d"),
        ]
        for put, mark in cases:
            with self.subTest(put):
                self.assertEqual(self.refused(TwiceMarked, ("put", "d", 0, put)), mark)

    def test_just_400_nodes(self):
        page = Page(flat(399))
        patches = Patches(page, [("put", "n4", 0, node("last"))])
        self.assertEqual(len(list(patches.end)), 400)
        self.assertEqual(len(list(Patches(Page(flat(1)), [("put", "r", 0, chain(60)), ("drop", "1")]).end)), 2)

    def test_too_many(self):
        page = Page(flat(399))
        put = ("put", "r", 0, node("m", "x", node("o")))
        self.assertEqual(self.refused(TooMany, put, page=page), 401)
        self.assertEqual(self.refused(TooMany, ("put", "n7", 0, chain(60)), page=page), 459)
        full = Page(flat(400))
        self.assertEqual(self.refused(TooMany, ("put", "r", 0, node("m")), page=full), 401)
        self.assertEqual(
            self.refused(TooMany, ("drop", "n0"), ("put", "r", 0, node("m")), ("put", "r", 0, node("n0")), page=full),
            401,
        )

    def test_order_of_errors(self):
        full = Page(flat(400))
        self.assertEqual(self.refused(BadPatch, ("drop", "zz", 0)), ("drop", "zz", 0))
        self.assertEqual(self.refused(NoNode, ("put", "zz", -1, node("r"))), "zz")
        self.assertEqual(self.refused(RootStays, ("move", "r", -1)), "r")
        self.assertEqual(self.refused(BadPlace, ("put", "r", -1, node("r")), page=full), -1)
        self.assertEqual(self.refused(TwiceMarked, ("put", "r", 0, node("n", "x", node("r"))), page=full), "r")

    def test_each_patch_is_checked_when_its_turn_comes(self):
        self.assertEqual(self.refused(RootStays, ("drop", "r"), ()), "r")
        self.assertEqual(self.refused(BadPlace, ("drop", "d"), ("move", "a", 2), ("fly",)), 2)
        self.assertEqual(self.refused(BadPatch, ("put", "d", 0, node("n")), ("say", "n")), ("say", "n"))


class Signs(unittest.TestCase):
    def test_plus(self):
        first = Patches(PAGE, [("drop", "a"), ("say", "d", "x")])
        second = Patches(Page(first.end.top), [("move", "e", 0)])
        both = first + second
        self.assertEqual(list(both), [("drop", "a"), ("say", "d", "x"), ("move", "e", 0)])
        self.assertEqual((both.page, both.end, both.many), (PAGE, second.end, 3))
        self.assertEqual((first.many, second.many), (2, 1))

    def test_plus_of_none(self):
        empty = Patches(PAGE, [])
        self.assertEqual((list(empty + empty), (empty + empty).end), ([], PAGE))

    def test_not_one_page(self):
        first = Patches(PAGE, [("say", "d", "x")])
        for page, mark in ((PAGE, "r"), (tree("s(a)"), "s")):
            with self.assertRaises(NotOnePage) as caught:
                first + Patches(page, [])
            self.assertEqual(caught.exception.mark, mark)

    def test_minus(self):
        rows = [("drop", "a"), ("say", "d", "new"), ("move", "e", 0), ("put", "d", 0, node("n", "x", node("m")))]
        patches = Patches(PAGE, rows)
        back = -patches
        told = [("drop", "n"), ("move", "e", 1), ("say", "d", "at d"), ("put", "r", 0, PAGE["a"])]
        self.assertEqual(list(back), told)
        self.assertEqual((back.page, back.end, list(patches)), (patches.end, PAGE, rows))

    def test_minus_of_each(self):
        rows = [
            [("drop", mark)] for mark in ("a", "b", "c", "d", "e", "f")
        ] + [
            [("move", "a", at)] for at in range(3)
        ] + [
            [("move", "e", at)] for at in range(3)
        ] + [
            [("put", "r", at, node("n"))] for at in range(4)
        ] + [[("say", "r", "x")], []]
        for row in rows:
            back = -Patches(PAGE, row)
            self.assertEqual((back.end, back.many), (PAGE, len(row)))
            self.assertEqual((-back).end, Patches(PAGE, row).end)

    def test_minus_drops_what_was_put_and_filled(self):
        patches = Patches(PAGE, [("put", "d", 0, node("n")), ("put", "n", 0, node("m")), ("drop", "n")])
        back = -patches
        self.assertEqual(list(back), [("put", "d", 0, node("n", "col", node("m"))), ("drop", "m"), ("drop", "n")])
        self.assertEqual(back.end, PAGE)

    def test_there_and_back(self):
        patches = Patches(PAGE, [("drop", "a"), ("move", "e", 0)])
        whole = patches + -patches
        self.assertEqual((whole.end, whole.many), (PAGE, 4))

    def test_minus_of_none(self):
        self.assertEqual(list(-Patches(PAGE, [])), [])


if __name__ == "__main__":
    unittest.main()
