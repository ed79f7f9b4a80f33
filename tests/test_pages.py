import unittest

from drawnanew.errors import NoNode, TooMany, TwiceMarked
from drawnanew.pages import Page
from tests.helpers import chain, flat, node, tree

DEEP = node("e", "x")
ROOT = node("r", "col", node("a", "row", node("b", "text 1"), node("c", "", DEEP)), node("d", "button go"))
MARKS = ["r", "a", "b", "c", "e", "d"]


class Pages(unittest.TestCase):
    def test_top(self):
        self.assertEqual(Page(ROOT).top, ROOT)
        self.assertEqual(Page(node("r", "x")).top, ("r", "x", ()))

    def test_shown(self):
        told = ("col", (("row", (("text 1", ()), ("", (("x", ()),)))), ("button go", ())))
        self.assertEqual(Page(ROOT).shown, told)
        self.assertEqual(Page(node("r", "x")).shown, ("x", ()))

    def test_item(self):
        page = Page(ROOT)
        self.assertEqual(page["r"], ROOT)
        self.assertEqual(page["c"], ("c", "", (DEEP,)))
        self.assertEqual([page[mark][0] for mark in MARKS], MARKS)

    def test_in(self):
        page = Page(ROOT)
        for mark in MARKS:
            self.assertIn(mark, page)
        for mark in ("", "x", "R", "a ", "col", "text 1"):
            self.assertNotIn(mark, page)

    def test_page_order(self):
        self.assertEqual(list(Page(ROOT)), MARKS)
        self.assertEqual(list(tree("r(c(b a) z(y(x) w))")), ["r", "c", "b", "a", "z", "y", "x", "w"])

    def test_iterating_twice_at_once(self):
        page = Page(ROOT)
        self.assertEqual([(x, y) for x in page for y in page], [(x, y) for x in MARKS for y in MARKS])

    def test_equal(self):
        self.assertEqual(Page(ROOT), Page(tuple(ROOT)))
        self.assertTrue(tree("r(a b)") == tree("r(a b)"))
        self.assertTrue(tree("r(a b)") != tree("r(b a)"))
        self.assertFalse(Page(node("r", "x")) == Page(node("r", "y")))
        self.assertFalse(Page(node("r", "x")) == Page(node("s", "x")))
        self.assertFalse(Page(ROOT) == ROOT)

    def test_parent(self):
        page = Page(ROOT)
        self.assertEqual([page.parent(mark) for mark in MARKS], [None, "r", "a", "a", "c", "r"])

    def test_no_node(self):
        page = Page(ROOT)
        for mark in ("", "x", "R", "rr", "col", "text 1", "a" * 100, "%", "\xe9"):
            for ask in (lambda: page[mark], lambda: page.parent(mark)):
                with self.assertRaises(NoNode) as caught:
                    ask()
                self.assertEqual(caught.exception.mark, mark)

    def test_twice_marked(self):
        cases = [
            (node("r", "x", node("r", "y")), "r"),
            (node("r", "x", node("a"), node("b"), node("b"), node("a")), "b"),
            (node("r", "x", node("a", "x", node("b")), node("b", "x", node("a"))), "b"),
            (node("r", "x", node("a", "x", node("b", "x", node("a"))), node("b")), "a"),
        ]
        for root, mark in cases:
            with self.assertRaises(TwiceMarked) as caught:
                Page(root)
            self.assertEqual(caught.exception.mark, mark)

    def test_400_nodes(self):
        page = Page(flat(400))
        self.assertEqual(len(list(page)), 400)
        self.assertEqual(page.parent("n398"), "r")

    def test_too_many_nodes(self):
        for many in (401, 402, 1000):
            with self.assertRaises(TooMany) as caught:
                Page(flat(many))
            self.assertEqual(caught.exception.count, many)

    def test_twice_marked_comes_ahead_of_too_many(self):
        root = flat(401)
        with self.assertRaises(TwiceMarked) as caught:
            Page(node("r", "x", *root[2], node("n7"), node("n6")))
        self.assertEqual(caught.exception.mark, "n7")

    def test_60_levels(self):
        page = Page(chain(60))
        self.assertEqual(list(page), [str(level) for level in range(60)])
        self.assertEqual((page.parent("59"), page["59"]), ("58", ("59", "end", ())))
        shown = page.shown
        for _ in range(59):
            self.assertEqual(shown[0], "col")
            (shown,) = shown[1]
        self.assertEqual(shown, ("end", ()))
        self.assertEqual(page, Page(chain(60)))

    def test_400_nodes_of_60_levels(self):
        root = chain(60)
        full = node("r", "col", *root[2], *[node(f"n{k}", "x") for k in range(340)])
        self.assertEqual(len(list(Page(full))), 400)
        with self.assertRaises(TooMany) as caught:
            Page(node("r", "col", *full[2], node("one more")))
        self.assertEqual(caught.exception.count, 401)


if __name__ == "__main__":
    unittest.main()
