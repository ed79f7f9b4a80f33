import inspect
import itertools
import unittest

from drawnanew.errors import NotOnePage, ScreenError
from drawnanew.pages import Page
from drawnanew.patches import Patches, separate, weavings
from tests.helpers import dice, node, random_root, tree
from tests.test_patches import random_patch

PAGE = tree("r(a(b(c d)) e(f(g)) h)")


def both(first, second):
    """What `separate` tells, for both orders at once."""
    rows = [Patches(PAGE, first), Patches(PAGE, second)]
    told = [separate(rows[0], rows[1]), separate(rows[1], rows[0])]
    assert told[0] is told[1], (first, second, told)
    return told[0]


def oracle(first, second):
    """The conditions of the document, by sets."""
    rows = []
    for patches in (first, second):
        touched, removed, brought = set(), set(), set()
        page = patches.page
        for patch in patches:
            behind = Patches(page, [patch]).end
            if patch[0] == "say":
                touched.add(("label", patch[1]))
            elif patch[0] == "put":
                touched.add(("children", patch[1]))
                brought |= set(behind) - set(page)
            else:
                touched.add(("children", page.parent(patch[1])))
            if patch[0] == "drop":
                removed |= set(page) - set(behind)
            page = behind
        rows.append((touched, removed, brought))
    (touched, removed, brought), (touched2, removed2, brought2) = rows
    return not (
        touched & touched2
        or {mark for _, mark in touched} & removed2
        or {mark for _, mark in touched2} & removed
        or brought & brought2
        or removed & brought2
        or removed2 & brought
    )


class Separate(unittest.TestCase):
    def test_no_patches(self):
        self.assertIs(both([], []), True)
        self.assertIs(both([], [("drop", "a")]), True)

    def test_children_of_one_node(self):
        put, other = ("put", "a", 0, node("n")), ("put", "a", 0, node("m"))
        rows = [put, other, ("move", "b", 0), ("drop", "b")]
        for first, second in itertools.combinations(rows, 2):
            self.assertIs(both([first], [second]), False)
        self.assertIs(both([("move", "a", 0)], [("move", "h", 0)]), False)

    def test_children_of_different_nodes(self):
        self.assertIs(both([("put", "a", 0, node("n"))], [("put", "e", 0, node("m"))]), True)
        self.assertIs(both([("move", "c", 1)], [("drop", "g")]), True)
        self.assertIs(both([("drop", "b")], [("drop", "f")]), True)

    def test_label_of_one_node(self):
        self.assertIs(both([("say", "a", "x")], [("say", "a", "y")]), False)
        self.assertIs(both([("say", "a", "x")], [("say", "a", "x")]), False)
        self.assertIs(both([("say", "a", "x")], [("say", "b", "x")]), True)

    def test_label_and_children_of_one_node(self):
        self.assertIs(both([("say", "a", "x")], [("put", "a", 0, node("n"))]), True)
        self.assertIs(both([("say", "b", "x")], [("move", "b", 0)]), True)

    def test_touched_label_that_is_removed(self):
        self.assertIs(both([("say", "b", "x")], [("drop", "b")]), False)
        self.assertIs(both([("say", "c", "x")], [("drop", "a")]), False)

    def test_touched_children_that_are_removed(self):
        self.assertIs(both([("move", "d", 0)], [("drop", "a")]), False)
        self.assertIs(both([("put", "g", 0, node("n"))], [("drop", "e")]), False)
        self.assertIs(both([("drop", "d")], [("drop", "a")]), False)

    def test_moved_node_whose_child_is_touched(self):
        self.assertIs(both([("move", "a", 2)], [("drop", "b")]), True)

    def test_brought_by_both(self):
        first = [("put", "a", 0, node("n", "x", node("m")))]
        self.assertIs(both(first, [("put", "e", 0, node("o", "x", node("m")))]), False)
        self.assertIs(both(first, [("put", "e", 0, node("o", "x", node("p")))]), True)

    def test_removed_and_brought(self):
        self.assertIs(both([("drop", "b")], [("drop", "g"), ("put", "f", 0, node("g"))]), True)
        self.assertIs(both([("put", "c", 0, node("n")), ("drop", "n")], [("put", "e", 0, node("n"))]), False)
        self.assertIs(both([("put", "c", 0, node("n", "x", node("m"))), ("drop", "n")], [("put", "e", 0, node("m"))]),
                      False)

    def test_removed_alone_and_brought_by_the_other(self):
        # Only the second row brings m; only the first one removes it, beneath another node.
        first = Patches(PAGE, [("put", "c", 0, node("n")), ("put", "n", 0, node("m")), ("drop", "n")])
        second = Patches(PAGE, [("put", "h", 0, node("m"))])
        self.assertFalse(separate(first, second) or separate(second, first))

    def test_what_stood_beneath_at_that_moment(self):
        # The node e stands beneath nothing that is dropped; what was dropped before counts once.
        self.assertIs(both([("drop", "c"), ("drop", "b")], [("say", "c", "x")]), False)
        self.assertIs(both([("put", "b", 0, node("n")), ("drop", "n")], [("say", "c", "x")]), True)
        self.assertIs(both([("put", "b", 0, node("n")), ("drop", "b")], [("put", "h", 0, node("n"))]), False)

    def test_pages_must_be_equal(self):
        first = Patches(PAGE, [])
        self.assertIs(separate(first, Patches(Page(PAGE.top), [])), True)
        for page, mark in ((tree("s(a)"), "s"), (tree("r(a)"), "r")):
            with self.assertRaises(NotOnePage) as caught:
                separate(first, Patches(page, []))
            self.assertEqual(caught.exception.mark, mark)

    def test_ends_have_no_say(self):
        first = Patches(PAGE, [("drop", "a")])
        with self.assertRaises(NotOnePage):
            separate(first, Patches(first.end, []))

    def test_rows_stay(self):
        first, second = Patches(PAGE, [("drop", "a")]), Patches(PAGE, [("drop", "f")])
        separate(first, second)
        self.assertEqual((list(first), list(second)), ([("drop", "a")], [("drop", "f")]))

    def test_at_random(self):
        chance = dice(13)
        counts = {True: 0, False: 0}
        for _ in range(600):
            page = Page(random_root(chance, list("rabcdefghij")))
            rows = []
            for fresh in ([*"abcdklm"], [*"efghmno"]):
                patches = Patches(page, [])
                for _ in range(chance.randrange(1, 4)):
                    patches = patches + Patches(patches.end, [random_patch(chance, patches.end, fresh)])
                rows.append(patches)
            told = separate(*rows)
            counts[told] += 1
            self.assertIs(told, oracle(*rows))
            if told:
                ends = [Patches(page, woven).end for woven in weavings(list(rows[0]), list(rows[1]))]
                self.assertEqual([end for end in ends if end != ends[0]], [])
        self.assertGreater(min(counts.values()), 50)

    def test_rows_that_are_not_separate_may_part(self):
        with self.assertRaises(ScreenError):
            for woven in weavings([("say", "b", "x")], [("drop", "b")]):
                Patches(PAGE, woven)


class Weavings(unittest.TestCase):
    def test_order(self):
        self.assertEqual(
            list(weavings([1, 2], [3, 4])),
            [[1, 2, 3, 4], [1, 3, 2, 4], [1, 3, 4, 2], [3, 1, 2, 4], [3, 1, 4, 2], [3, 4, 1, 2]],
        )
        self.assertEqual(list(weavings([1], [2, 3])), [[1, 2, 3], [2, 1, 3], [2, 3, 1]])
        self.assertEqual(list(weavings([1, 2], [3])), [[1, 2, 3], [1, 3, 2], [3, 1, 2]])

    def test_empty_lists(self):
        self.assertEqual(list(weavings([], [])), [[]])
        self.assertEqual(list(weavings([1, 2], [])), [[1, 2]])
        self.assertEqual(list(weavings([], [1, 2])), [[1, 2]])

    def test_equal_things(self):
        self.assertEqual(list(weavings([1], [1])), [[1, 1], [1, 1]])
        self.assertEqual(list(weavings([1, 1], [1, 2])), [
            [1, 1, 1, 2], [1, 1, 1, 2], [1, 1, 2, 1], [1, 1, 1, 2], [1, 1, 2, 1], [1, 2, 1, 1],
        ])

    def test_all_in_order(self):
        for many, more in itertools.product(range(5), repeat=2):
            first, second = [("a", k) for k in range(many)], [("b", k) for k in range(more)]
            told = []
            for places in itertools.combinations(range(many + more), many):
                ahead, beside = iter(first), iter(second)
                told.append([next(ahead) if at in places else next(beside) for at in range(many + more)])
            self.assertEqual(list(weavings(first, second)), told)

    def test_new_lists(self):
        first, second = [1], []
        (woven,) = weavings(first, second)
        woven.append(5)
        self.assertEqual((first, second), ([1], []))
        told = []
        for woven in weavings([1, 2], [3]):
            told.append(list(woven))
            woven.clear()
        self.assertEqual(told, [[1, 2, 3], [1, 3, 2], [3, 1, 2]])

    def test_does_nothing_before_it_is_iterated(self):
        self.assertTrue(inspect.isgenerator(weavings([1], [2])))
        first = [1]
        rows = weavings(first, [2])
        first.append(3)
        self.assertEqual(len(list(rows)), 3)

    def test_long_lists(self):
        rows = weavings(list(range(300)), list(range(300)))
        self.assertEqual(next(rows), list(range(300)) * 2)
        self.assertEqual(next(rows)[298:302], [298, 0, 299, 1])


if __name__ == "__main__":
    unittest.main()
