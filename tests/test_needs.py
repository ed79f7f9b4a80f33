import inspect
import itertools
import unittest

from drawnanew.errors import NoName, TooMany
from drawnanew.forms import Form
from drawnanew.needs import apart, enough, needed, settings, shown_by
from tests.helpers import dice

RANGES = [("a", 2), ("b", 3), ("c", 2)]
FULL = [("a", 4), ("b", 4), ("c", 4), ("d", 4)]
BEYOND = [("a", 4), ("b", 4), ("c", 4), ("d", 4), ("e", 2)]
SUM = Form(("sum", ("get", "a"), ("get", "c")))


def emptying(works):
    """Works that empty the dict that they get."""

    def emptied(setting):
        result = works(dict(setting))
        setting.clear()
        return result

    return emptied


class Seen:
    """Something that can be compared by == and by nothing else."""

    def __init__(self, told):
        self.told = told

    def __eq__(self, other):
        return self.told == other.told

    __hash__ = None


def differing(ranges, name):
    """All ordered pairs of settings that differ in this name alone, in the order of the document."""
    every = list(settings(ranges))
    others = [told for told, _ in ranges if told != name]
    return [
        (first, second)
        for first in every
        for second in every
        if first[name] != second[name] and all(first[told] == second[told] for told in others)
    ]


class Settings(unittest.TestCase):
    def test_order(self):
        rows = [tuple(setting.values()) for setting in settings(RANGES)]
        self.assertEqual(rows, list(itertools.product(range(2), range(3), range(2))))

    def test_order_of_names(self):
        for setting in settings([("z", 2), ("a", 2), ("m", 1)]):
            self.assertEqual(list(setting), ["z", "a", "m"])

    def test_one_name(self):
        self.assertEqual(list(settings([("a", 3)])), [{"a": 0}, {"a": 1}, {"a": 2}])

    def test_no_names(self):
        self.assertEqual(list(settings([])), [{}])

    def test_just_256(self):
        rows = list(settings(FULL))
        self.assertEqual((len(rows), rows[0]["d"], rows[-1]), (256, 0, {"a": 3, "b": 3, "c": 3, "d": 3}))
        self.assertEqual(len(list(settings([(name, 1) for name in "abcdefghij"]))), 1)

    def test_too_many_when_iterated(self):
        for ranges, count in ((BEYOND, 512), (FULL[:3] + [("d", 3), ("e", 2)], 384), ([("a", 4)] * 20, 4 ** 20)):
            rows = settings(ranges)
            with self.assertRaises(TooMany) as caught:
                next(rows)
            self.assertEqual(caught.exception.count, count)

    def test_is_a_generator(self):
        self.assertTrue(inspect.isgenerator(settings(RANGES)))

    def test_dicts_are_new(self):
        rows = []
        for setting in settings([("a", 2), ("b", 2)]):
            rows.append(dict(setting))
            setting.clear()
        self.assertEqual(rows, list(settings([("a", 2), ("b", 2)])))

    def test_ranges_stay_and_may_change_on_the_way(self):
        ranges = [("a", 2), ("b", 2)]
        rows = []
        for setting in settings(ranges):
            rows.append(setting)
            ranges.clear()
        self.assertEqual(len(rows), 4)
        self.assertEqual(rows[3], {"a": 1, "b": 1})


class Needed(unittest.TestCase):
    def test_forms(self):
        self.assertEqual(needed(SUM, RANGES), ("a", "c"))
        self.assertEqual(needed(SUM, [("c", 2), ("b", 3), ("a", 2)]), ("c", "a"))
        self.assertEqual(needed(Form(("is", 3)), RANGES), ())
        self.assertEqual(needed(Form(("same", ("get", "b"), ("get", "b"))), RANGES), ())

    def test_a_size_of_one_is_not_needed(self):
        self.assertEqual(needed(SUM, [("a", 1), ("c", 2)]), ("c",))

    def test_one_setting_is_not_held_against_itself(self):
        self.assertEqual(needed(lambda setting: float("nan"), [("a", 1)]), ())
        self.assertIs(enough(lambda setting: float("nan"), [("a", 1)], []), True)

    def test_a_name_that_is_needed_at_one_setting_alone(self):
        late = Form(("pick", ("same", ("get", "b"), ("is", 2)), ("get", "a"), ("is", 0)))
        self.assertEqual(needed(late, RANGES), ("a", "b"))

    def test_needed_between_later_values_alone(self):
        self.assertEqual(needed(lambda setting: setting["b"] == 2, RANGES), ("b",))

    def test_other_callables(self):
        self.assertEqual(needed(lambda setting: Seen([setting["b"]]), RANGES), ("b",))
        self.assertEqual(needed(lambda setting: None, RANGES), ())
        self.assertEqual(needed(lambda setting: dict(setting), RANGES), ("a", "b", "c"))

    def test_works_that_empty_their_dict(self):
        self.assertEqual(needed(emptying(SUM), RANGES), ("a", "c"))

    def test_no_names(self):
        self.assertEqual(needed(Form(("is", 1)), []), ())

    def test_just_256(self):
        self.assertEqual(needed(Form(("get", "d")), FULL), ("d",))

    def test_too_many_comes_first(self):
        with self.assertRaises(TooMany) as caught:
            needed(Form(("get", "zz")), BEYOND)
        self.assertEqual(caught.exception.count, 512)

    def test_no_name(self):
        with self.assertRaises(NoName) as caught:
            needed(Form(("get", "zz")), RANGES)
        self.assertEqual(caught.exception.name, "zz")

    def test_at_random(self):
        chance = dice(3)
        for _ in range(60):
            table = {row: chance.randrange(2) for row in itertools.product(range(2), range(3), range(2))}
            for row in list(table):
                if chance.randrange(2):
                    table[row] = table[(0,) + row[1:]]

            def works(setting):
                return table[tuple(setting.values())]

            told = [name for name, _ in RANGES if any(works(x) != works(y) for x, y in differing(RANGES, name))]
            self.assertEqual(needed(works, RANGES), tuple(told))
            for names in (["a"], ["b", "c"], ["a", "c"], ["c", "b", "a"], []):
                self.assertEqual(enough(works, RANGES, names), agreed(works, names))
            for name, _ in RANGES:
                pairs = [(x, y) for x, y in differing(RANGES, name) if works(x) != works(y)]
                self.assertEqual(shown_by(works, RANGES, name), pairs[0] if pairs else None)


def agreed(works, names):
    every = list(settings(RANGES))
    return all(
        works(first) == works(second)
        for first in every
        for second in every
        if all(first[name] == second[name] for name in names)
    )


class ShownBy(unittest.TestCase):
    def test_first_pair(self):
        self.assertEqual(
            shown_by(SUM, RANGES, "c"), ({"a": 0, "b": 0, "c": 0}, {"a": 0, "b": 0, "c": 1})
        )
        late = Form(("pick", ("same", ("get", "b"), ("is", 2)), ("get", "a"), ("is", 0)))
        self.assertEqual(
            shown_by(late, RANGES, "a"), ({"a": 0, "b": 2, "c": 0}, {"a": 1, "b": 2, "c": 0})
        )
        self.assertEqual(
            shown_by(late, RANGES, "b"), ({"a": 1, "b": 0, "c": 0}, {"a": 1, "b": 2, "c": 0})
        )

    def test_second_by_order(self):
        self.assertEqual(shown_by(Form(("get", "b")), [("b", 4)], "b"), ({"b": 0}, {"b": 1}))
        works = Form(("same", ("get", "b"), ("is", 2)))
        self.assertEqual(shown_by(works, [("b", 4)], "b"), ({"b": 0}, {"b": 2}))

    def test_dicts_are_in_order_and_new(self):
        kept = []
        first, second = shown_by(lambda setting: kept.append(setting) or setting["a"], RANGES, "a")
        self.assertEqual((list(first), list(second)), (["a", "b", "c"],) * 2)
        self.assertFalse([setting for setting in kept if setting is first or setting is second])

    def test_not_needed(self):
        self.assertIsNone(shown_by(SUM, RANGES, "b"))

    def test_works_that_empty_their_dict(self):
        self.assertEqual(
            shown_by(emptying(SUM), RANGES, "a"), ({"a": 0, "b": 0, "c": 0}, {"a": 1, "b": 0, "c": 0})
        )

    def test_name_that_the_ranges_lack(self):
        for ranges in (RANGES, []):
            with self.assertRaises(NoName) as caught:
                shown_by(Form(("get", "zz")), ranges, "d")
            self.assertEqual(caught.exception.name, "d")

    def test_order_of_errors(self):
        with self.assertRaises(TooMany) as caught:
            shown_by(SUM, BEYOND, "zz")
        self.assertEqual(caught.exception.count, 512)
        with self.assertRaises(NoName) as caught:
            shown_by(SUM, RANGES[:2], "a")
        self.assertEqual(caught.exception.name, "c")


class Apart(unittest.TestCase):
    def test_first_setting(self):
        self.assertEqual(apart(Form(("get", "a")), Form(("get", "b")), RANGES), {"a": 0, "b": 1, "c": 0})
        self.assertEqual(apart(SUM, Form(("is", 2)), RANGES), {"a": 0, "b": 0, "c": 0})
        self.assertEqual(apart(SUM, Form(("is", 0)), RANGES), {"a": 0, "b": 0, "c": 1})

    def test_none(self):
        other = Form(("sum", ("get", "c"), ("get", "a")))
        self.assertIsNone(apart(SUM, other, RANGES))
        self.assertIsNone(apart(SUM, lambda setting: setting["a"] + setting["c"], RANGES))

    def test_no_names(self):
        self.assertEqual(apart(Form(("is", 1)), Form(("is", 2)), []), {})
        self.assertIsNone(apart(Form(("is", 1)), Form(("is", 1)), []))

    def test_other_callables(self):
        self.assertEqual(
            apart(lambda setting: Seen(setting["b"]), lambda setting: Seen(0), RANGES), {"a": 0, "b": 1, "c": 0}
        )

    def test_works_that_empty_their_dict(self):
        self.assertEqual(
            apart(emptying(Form(("get", "a"))), emptying(Form(("get", "b"))), RANGES), {"a": 0, "b": 1, "c": 0}
        )

    def test_errors(self):
        with self.assertRaises(TooMany) as caught:
            apart(Form(("get", "zz")), SUM, BEYOND)
        self.assertEqual(caught.exception.count, 512)
        for first, second in ((Form(("get", "zz")), SUM), (SUM, Form(("get", "zz")))):
            with self.assertRaises(NoName) as caught:
                apart(first, second, RANGES)
            self.assertEqual(caught.exception.name, "zz")


class Enough(unittest.TestCase):
    def test_lists(self):
        self.assertIs(enough(SUM, RANGES, ["a", "c"]), True)
        self.assertIs(enough(SUM, RANGES, ["c", "b", "a"]), True)
        self.assertIs(enough(SUM, RANGES, ["a", "b"]), False)
        self.assertIs(enough(SUM, RANGES, []), False)
        self.assertIs(enough(Form(("is", 1)), RANGES, []), True)

    def test_names_that_the_ranges_lack(self):
        self.assertIs(enough(SUM, RANGES, ["zz", "a", "c"]), True)
        self.assertIs(enough(SUM, RANGES, ["zz", "a"]), False)

    def test_works_that_empty_their_dict(self):
        self.assertIs(enough(emptying(SUM), RANGES, ["a", "c"]), True)
        self.assertIs(enough(emptying(SUM), RANGES, ["c"]), False)

    def test_errors(self):
        with self.assertRaises(TooMany) as caught:
            enough(Form(("get", "zz")), BEYOND, [])
        self.assertEqual(caught.exception.count, 512)
        with self.assertRaises(NoName) as caught:
            enough(Form(("get", "zz")), RANGES, ["a", "b", "c"])
        self.assertEqual(caught.exception.name, "zz")

    def test_arguments_stay(self):
        ranges, names = list(RANGES), ["a"]
        enough(emptying(SUM), ranges, names)
        needed(SUM, ranges)
        self.assertEqual((ranges, names), (RANGES, ["a"]))


if __name__ == "__main__":
    unittest.main()
