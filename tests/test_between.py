import itertools
import unittest

from drawnanew.errors import NotOnePage
from drawnanew.pages import Page
from drawnanew.patches import Patches, between, staying
from tests.helpers import chain, dice, flat, node, random_page, random_root, tree


def stays(old, new):
    """The staying nodes by a way of its own: all marks from the root down are the same on both pages."""

    def way(page, mark):
        return [] if mark is None else way(page, page.parent(mark)) + [mark]

    return tuple([mark for mark in old if mark in new and way(old, mark) == way(new, mark)])


def longest(first, second):
    """The greatest number of marks that stand in the same order in both lists, by all their parts."""
    for many in range(len(first), 0, -1):
        for some in itertools.combinations(first, many):
            if [mark for mark in second if mark in some] == list(some):
                return many
    return 0


def told(old, new):
    """How many patches of each word the document tells."""
    stay = stays(old, new)
    moves = 0
    for mark in stay:
        first, second = [[c[0] for c in page[mark][2] if c[0] in stay] for page in (old, new)]
        moves += len(first) - longest(first, second)
    return {
        "drop": len([m for m in old if m not in stay and old.parent(m) in stay]),
        "put": len([m for m in new if m not in stay and new.parent(m) in stay]),
        "say": len([m for m in stay if old[m][1] != new[m][1]]),
        "move": moves,
    }


def counted(patches):
    words = [patch[0] for patch in patches]
    return {word: words.count(word) for word in ("drop", "put", "say", "move")}


def careful(old, new, patches):
    stay = stays(old, new)
    rows = list(patches)
    for many, patch in enumerate(rows):
        if patch[0] == "drop":
            ahead = Patches(old, rows[:many]).end
            beneath = [patch[1]]
            for mark in ahead:
                if ahead.parent(mark) in beneath:
                    beneath.append(mark)
            if [mark for mark in beneath if mark in stay]:
                return False
    return True


class Staying(unittest.TestCase):
    def test_documented(self):
        old, new = tree("r(a(b c) d(e))"), tree("r(d(c e) a(b x))")
        self.assertEqual(staying(old, new), ("r", "a", "b", "d", "e"))
        self.assertEqual(staying(new, old), ("r", "d", "e", "a", "b"))

    def test_another_parent(self):
        self.assertEqual(staying(tree("r(a(b(c)) d)"), tree("r(a d(b(c)))")), ("r", "a", "d"))
        self.assertEqual(staying(tree("r(a(b))"), tree("r(b(a))")), ("r",))

    def test_parent_that_does_not_stay(self):
        self.assertEqual(staying(tree("r(a(b(c d)))"), tree("r(x(b(c d)) a)")), ("r", "a"))

    def test_other_labels(self):
        self.assertEqual(staying(Page(node("r", "x", node("a"))), Page(node("r", "y", node("a", "z")))), ("r", "a"))

    def test_one_page(self):
        page = tree("r(a(b c) d)")
        self.assertEqual(staying(page, page), ("r", "a", "b", "c", "d"))

    def test_not_one_page(self):
        for ask in (staying, between):
            with self.assertRaises(NotOnePage) as caught:
                ask(tree("r(a)"), tree("s(r a)"))
            self.assertEqual(caught.exception.mark, "s")
            with self.assertRaises(NotOnePage) as caught:
                ask(tree("s(r)"), tree("r(s)"))
            self.assertEqual(caught.exception.mark, "r")

    def test_at_random(self):
        chance = dice(11)
        for _ in range(200):
            old, new = [random_page(chance, list("abcdefg")) for _ in range(2)]
            self.assertEqual(staying(old, new), stays(old, new))


class Between(unittest.TestCase):
    def check(self, old, new):
        patches = between(old, new)
        self.assertIsInstance(patches, Patches)
        self.assertEqual((patches.page, patches.end), (old, new))
        self.assertEqual(counted(patches), told(old, new))
        self.assertEqual(patches.many, sum(told(old, new).values()))
        self.assertTrue(careful(old, new, patches))
        return patches

    def test_same_page(self):
        page = tree("r(a(b c) d)")
        self.assertEqual(list(self.check(page, page)), [])

    def test_nested(self):
        old, new = tree("r(a(b(c)) d)"), tree("r(d x(y z))")
        self.assertEqual(list(self.check(old, new)), [("drop", "a"), ("put", "r", 1, new["x"])])

    def test_beneath_a_staying_node(self):
        self.assertEqual(list(self.check(tree("r(a(b(c) d))"), tree("r(a(d))"))), [("drop", "b")])
        (patch,) = self.check(tree("r(a(d))"), tree("r(a(b(c) d))"))
        self.assertEqual(patch[:3], ("put", "a", 0))

    def test_other_parents(self):
        self.check(tree("r(a(b c) d)"), tree("r(a d(b c))"))
        self.check(tree("r(a(b(c(d))))"), tree("r(d(c(b(a))))"))
        self.check(tree("r(a(b c) d(e f))"), tree("r(d(b f) a(e c))"))

    def test_one_move_for_one_node_out_of_order(self):
        old = tree("r(a b c d e f g)")
        for place, at in itertools.product(range(7), repeat=2):
            marks = list("abcdefg")
            marks.insert(at, marks.pop(place))
            new = tree(f"r({' '.join(marks)})")
            self.assertEqual(self.check(old, new).many, 0 if place == at else 1)

    def test_all_orders_of_five(self):
        old = tree("r(a b c d e)")
        for marks in itertools.permutations("abcde"):
            self.check(old, tree(f"r({' '.join(marks)})"))

    def test_reversed(self):
        self.assertEqual(self.check(tree("r(a b c d)"), tree("r(d c b a)")).many, 3)

    def test_labels(self):
        old = Page(node("r", "x", node("a", "one"), node("b", "two")))
        new = Page(node("r", "y", node("b", "two"), node("a", "other")))
        self.assertEqual(counted(self.check(old, new)), {"drop": 0, "put": 0, "say": 2, "move": 1})

    def test_label_of_a_node_that_does_not_stay(self):
        old = Page(node("r", "x", node("a", "x", node("b", "one"))))
        new = Page(node("r", "x", node("b", "two"), node("a", "x")))
        self.assertEqual(counted(self.check(old, new)), {"drop": 1, "put": 1, "say": 0, "move": 0})

    def test_full_pages(self):
        old = Page(flat(400))
        new = Page(node("r", "col", *[node(f"m{k}", "x") for k in range(399)]))
        patches = between(old, new)
        self.assertEqual((patches.end, patches.many), (new, 798))
        turned = Page(node("r", "col", *reversed(flat(400)[2])))
        patches = between(old, turned)
        self.assertEqual((patches.end, counted(patches)["move"], patches.many), (turned, 398, 398))

    def test_sixty_levels(self):
        self.check(Page(chain(60)), Page(chain(12)))
        self.check(Page(chain(12)), Page(chain(60)))

    def test_many_children_at_random(self):
        chance = dice(23)
        for _ in range(60):
            marks = [f"n{k}" for k in range(9)]
            some = [mark for mark in marks if chance.randrange(5)]
            chance.shuffle(some)
            self.check(tree(f"r({' '.join(marks)})"), tree(f"r({' '.join(some)} x)"))

    def test_at_random(self):
        chance = dice(7)
        for _ in range(400):
            old, new = [random_page(chance, list("abcdefghij")) for _ in range(2)]
            self.check(old, new)

    def test_pages_that_are_near_at_random(self):
        chance = dice(8)
        for _ in range(200):
            old = Page(random_root(chance, list("rabcdefghij")))
            root = old.top
            for _ in range(3):
                root = shuffled(chance, root)
            self.check(old, Page(root))


def shuffled(chance, root):
    """The root with some children in another order and some labels changed."""
    children = [shuffled(chance, child) for child in root[2]]
    if chance.randrange(2):
        chance.shuffle(children)
    return (root[0], chance.choice([root[1], "other"]), tuple(children))


if __name__ == "__main__":
    unittest.main()
