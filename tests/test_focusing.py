import unittest

from drawnanew.errors import BadRule, NoNode
from drawnanew.focusing import Focus, buttons
from drawnanew.pages import Page
from tests.helpers import dice, node


def page(*marks):
    """A page whose root has these buttons, and a text behind each."""
    children = []
    for mark in marks:
        children += [node(mark, f"button {mark}"), node(f"t{mark}", "text 1")]
    return Page(node("r", "col", *children))


ABC = page("a", "b", "c")
NONE = page()


class Buttons(unittest.TestCase):
    def test_page_order(self):
        told = Page(node("r", "row", node("b", "button x", node("a", "button y")), node("c", "button z")))
        self.assertEqual(buttons(told), ("b", "a", "c"))
        self.assertEqual(buttons(ABC), ("a", "b", "c"))

    def test_labels(self):
        labels = ["button ", "button a", "button", "buttons a", "Button a", " button a", "a button b", "button  "]
        told = Page(node("r", "button r", *[node(str(at), label) for at, label in enumerate(labels)]))
        self.assertEqual(buttons(told), ("r", "0", "1", "7"))

    def test_none(self):
        self.assertEqual(buttons(NONE), ())


class At(unittest.TestCase):
    def test_new(self):
        focus = Focus(ABC)
        self.assertEqual((focus.at, focus.rule), (None, "near"))
        self.assertIs(focus.page, ABC)

    def test_rules(self):
        for rule in ("none", "first", "near"):
            self.assertEqual(Focus(ABC, rule).rule, rule)
            self.assertEqual(Focus(ABC, rule=rule).rule, rule)

    def test_bad_rule(self):
        for rule in ("", "last", "Near", None, 0, True, ["near"], ("near",)):
            with self.assertRaises(BadRule) as caught:
                Focus(ABC, rule)
            self.assertIs(caught.exception.rule, rule)

    def test_set(self):
        focus = Focus(ABC)
        for mark in ("b", "a", None, "c"):
            focus.at = mark
            self.assertEqual(focus.at, mark)

    def test_put(self):
        focus = Focus(ABC)
        for mark in ("b", "b", None, "c"):
            self.assertEqual((focus.put(mark), focus.at), (mark, mark))

    def test_no_node(self):
        focus = Focus(ABC)
        focus.at = "b"
        for mark in ("ta", "r", "x", "", "button a"):
            with self.assertRaises(NoNode) as caught:
                focus.at = mark
            self.assertEqual(caught.exception.mark, mark)
            with self.assertRaises(NoNode) as caught:
                focus.put(mark)
            self.assertEqual((caught.exception.mark, focus.at), (mark, "b"))


class Steps(unittest.TestCase):
    def test_next(self):
        focus = Focus(ABC)
        self.assertEqual([focus.step("next") for _ in range(7)], ["a", "b", "c", "a", "b", "c", "a"])
        self.assertEqual(focus.at, "a")

    def test_back(self):
        focus = Focus(ABC)
        self.assertEqual([focus.step("back") for _ in range(7)], ["c", "b", "a", "c", "b", "a", "c"])
        self.assertEqual(focus.at, "c")

    def test_to_and_fro(self):
        focus = Focus(ABC)
        focus.at = "b"
        self.assertEqual([focus.step(way) for way in ("next", "back", "back", "back")], ["c", "b", "a", "c"])

    def test_one_button(self):
        focus = Focus(page("a"))
        self.assertEqual([focus.step(way) for way in ("next", "next", "back")], ["a", "a", "a"])

    def test_no_buttons(self):
        for way in ("next", "back"):
            focus = Focus(NONE)
            self.assertEqual((focus.step(way), focus.at), (None, None))


class Turns(unittest.TestCase):
    def turned(self, old, at, new, rule):
        focus = Focus(old, rule)
        focus.at = at
        told = focus.turn(new)
        self.assertEqual(focus.at, told)
        self.assertIs(focus.page, new)
        return told

    def test_none_stays(self):
        for rule in ("none", "first", "near"):
            self.assertIsNone(self.turned(ABC, None, page("a", "x"), rule))

    def test_a_button_that_is_there_stays(self):
        for rule in ("none", "first", "near"):
            self.assertEqual(self.turned(ABC, "b", page("x", "c", "b"), rule), "b")

    def test_none_rule(self):
        self.assertIsNone(self.turned(ABC, "b", page("a", "c"), "none"))

    def test_first_rule(self):
        self.assertEqual(self.turned(ABC, "b", page("c", "a"), "first"), "c")
        self.assertEqual(self.turned(ABC, "b", page("x", "a"), "first"), "x")
        self.assertIsNone(self.turned(ABC, "b", NONE, "first"))

    def test_near_rule(self):
        five = page("a", "b", "c", "d", "e")
        self.assertEqual(self.turned(five, "b", page("e", "d", "a"), "near"), "d")
        self.assertEqual(self.turned(five, "c", page("e", "b"), "near"), "e")
        self.assertEqual(self.turned(five, "c", page("a", "b", "x"), "near"), "b")
        self.assertEqual(self.turned(five, "d", page("b", "a"), "near"), "b")
        self.assertEqual(self.turned(five, "a", page("e"), "near"), "e")
        self.assertEqual(self.turned(five, "e", page("a"), "near"), "a")

    def test_near_rule_without_a_button_that_is_left(self):
        self.assertIsNone(self.turned(ABC, "b", page("x", "y"), "near"))
        self.assertIsNone(self.turned(ABC, "b", NONE, "near"))

    def test_a_node_that_is_no_button_any_more(self):
        plain = Page(node("r", "col", node("a", "button a"), node("b", "text b"), node("c", "button c")))
        told = {rule: self.turned(ABC, "b", plain, rule) for rule in ("none", "first", "near")}
        self.assertEqual(told, {"none": None, "first": "a", "near": "c"})
        # b is a node of the new page, but a lost focus does not come to it either.
        self.assertEqual(self.turned(ABC, "a", Page(node("r", "x", node("b", "x"), node("c", "button c"))), "near"), "c")

    def test_behind_a_turn(self):
        focus = Focus(ABC, "near")
        focus.at = "c"
        self.assertEqual(focus.turn(page("b", "d")), "b")
        self.assertEqual(focus.step("next"), "d")
        with self.assertRaises(NoNode):
            focus.at = "c"
        self.assertIsNone(focus.turn(NONE))
        self.assertIsNone(focus.turn(ABC))

    def test_at_random(self):
        chance = dice(29)
        for _ in range(300):
            old, new = [chance.sample("abcdef", chance.randrange(1, 6)) for _ in range(2)]
            at = chance.choice(old)
            place = old.index(at)
            left = [mark for mark in old[place + 1:] if mark in new]
            ahead = [mark for mark in old[:place] if mark in new]
            near = at if at in new else left[0] if left else ahead[-1] if ahead else None
            self.assertEqual(self.turned(page(*old), at, page(*new), "near"), near)


if __name__ == "__main__":
    unittest.main()
