import itertools
import unittest

from drawnanew.errors import BadNames
from drawnanew.schedules import Schedule, all_schedules, spoiling

ABC = ("a", "b", "c")
SETS = [("a",), ("b",), ("c",), ("a", "b"), ("a", "c"), ("b", "c"), ("a", "b", "c")]
WRONG_NAMES = [(), ["a"], "a", None, ("a", "a"), ("a", "b", "c", "d"), ("A",), (1,), ("",), ("a", None), ("ninechars",)]


def drawn(schedule):
    return list(schedule)


class Making(unittest.TestCase):
    def test_sets_come_in_order(self):
        self.assertEqual(drawn(Schedule(ABC, SETS[::-1])), SETS)
        self.assertEqual(drawn(Schedule(("b", "a"), [("a",), ("a", "b"), ("b",)])), [("b",), ("a",), ("b", "a")])
        self.assertEqual(drawn(Schedule(("a",), [])), [])

    def test_names_of_a_set_in_any_order_and_a_set_twice(self):
        schedule = Schedule(ABC, [("c", "a"), ("b",), ("a", "c"), ("c", "b", "a"), ("b",)])
        self.assertEqual(drawn(schedule), [("b",), ("a", "c"), ("a", "b", "c")])

    def test_bad_names(self):
        for names in WRONG_NAMES:
            for make in (lambda: Schedule(names, [("a",)]), lambda: Schedule.least(names, ("a",)),
                         lambda: list(all_schedules(names))):
                with self.subTest(names=names), self.assertRaises(BadNames) as caught:
                    make()
                self.assertEqual(caught.exception.told, names)

    def test_bad_sets(self):
        for changed in ((), ("d",), ("a", "a"), ["a"], "a", None, ("a", "b", "a"), (1,), ("a", [])):
            with self.subTest(changed=changed), self.assertRaises(BadNames) as caught:
                Schedule(ABC, [("a",), changed, ("d", "d")])
            self.assertEqual(caught.exception.told, changed)

    def test_names_come_first(self):
        with self.assertRaises(BadNames) as caught:
            Schedule(("a", "a"), [()])
        self.assertEqual(caught.exception.told, ("a", "a"))

    def test_lists_are_copied(self):
        sets = [("a",)]
        schedule = Schedule(ABC, sets)
        sets.append(("b",))
        self.assertEqual(drawn(schedule), [("a",)])

    def test_a_generator_does_nothing_before_it_is_iterated(self):
        made = all_schedules(())
        with self.assertRaises(BadNames):
            list(made)


class Asking(unittest.TestCase):
    def test_in(self):
        schedule = Schedule(ABC, [("a", "c"), ("b",)])
        for changed in (("a", "c"), ("c", "a"), ("b",)):
            self.assertTrue(changed in schedule)
        for changed in (("a",), ("c",), ("a", "b"), ("b", "c"), ("a", "b", "c"), (), ("d",), ("b", "d"), ("b", "b")):
            self.assertFalse(changed in schedule)

    def test_at_most_and_equal(self):
        few, more = Schedule(ABC, [("a",)]), Schedule(ABC, [("b",), ("a",)])
        self.assertTrue(few <= more)
        self.assertFalse(more <= few)
        self.assertTrue(few <= few)
        self.assertTrue(more == Schedule(ABC, [("a",), ("b",), ("a",)]))
        self.assertFalse(few == more)
        self.assertTrue(few != more)
        self.assertFalse(few <= Schedule(ABC, [("b",)]))
        self.assertFalse(few == 1)
        with self.assertRaises(TypeError):
            few <= 1

    def test_all_pairs_of_two_names(self):
        rows = list(all_schedules(("a", "b")))
        for one in rows:
            for two in rows:
                self.assertIs(one <= two, set(one) <= set(two))
                self.assertIs(one == two, set(one) == set(two))


class Missing(unittest.TestCase):
    def test_missed(self):
        schedule = Schedule(ABC, [("a",), ("b",), ("a", "b"), ("a", "c"), ("a", "b", "c")])
        self.assertIsNone(schedule.missed(("a",)))
        self.assertEqual(schedule.missed(("b",)), ("b", "c"))
        self.assertEqual(schedule.missed(("c",)), ("c",))
        self.assertEqual(schedule.missed(("c", "a")), ("c",))
        self.assertIsNone(schedule.missed(()))
        self.assertIsNone(schedule.missed(("d",)))
        self.assertEqual(schedule.missed(("d", "b")), ("b", "c"))

    def test_least(self):
        self.assertEqual(drawn(Schedule.least(ABC, ("b",))), [("b",), ("a", "b"), ("b", "c"), ("a", "b", "c")])
        self.assertEqual(drawn(Schedule.least(ABC, ())), [])
        self.assertEqual(drawn(Schedule.least(ABC, ("d",))), [])
        self.assertEqual(drawn(Schedule.least(ABC, ("c", "b", "a"))), SETS)
        self.assertEqual(drawn(Schedule.least(("b", "a"), ("a", "d"))), [("a",), ("b", "a")])
        self.assertEqual(drawn(Schedule(("a",), []).least(("b",), ("b",))), [("b",)])

    def test_right_exactly_if_the_least_is_at_most_it(self):
        for names in (("a",), ("b", "a"), ABC):
            for many in range(len(names) + 1):
                for needs in itertools.combinations(names, many):
                    least = Schedule.least(names, needs)
                    self.assertIsNone(least.missed(needs))
                    for schedule in all_schedules(names):
                        self.assertIs(schedule.missed(needs) is None, least <= schedule)


class All(unittest.TestCase):
    def test_how_many_and_in_which_order(self):
        self.assertEqual([drawn(schedule) for schedule in all_schedules(("x",))], [[], [("x",)]])
        self.assertEqual([drawn(schedule) for schedule in all_schedules(("b", "a"))], [
            [], [("b",)], [("a",)], [("b",), ("a",)], [("b", "a")], [("b",), ("b", "a")], [("a",), ("b", "a")],
            [("b",), ("a",), ("b", "a")]])
        rows = [drawn(schedule) for schedule in all_schedules(ABC)]
        self.assertEqual(len(rows), 128)
        self.assertEqual([sum([2 ** SETS.index(told) for told in row]) for row in rows], list(range(128)))


class Spoiling(unittest.TestCase):
    def test_none_for_a_right_one(self):
        self.assertIsNone(spoiling(Schedule.least(ABC, ("a", "b")), ("a", "b")))
        self.assertIsNone(spoiling(Schedule(ABC, []), ()))
        self.assertIsNone(spoiling(Schedule(ABC, []), ("d",)))

    def test_shape_and_settings(self):
        schedule = Schedule(ABC, [("a",), ("b",), ("a", "b")])
        self.assertEqual(spoiling(schedule, ("b", "a")), (
            ("col", (("text", ("get", "a")), ("text", ("get", "b")))),
            {"a": 0, "b": 0, "c": 0}, {"a": 1, "b": 0, "c": 1},
        ))
        self.assertEqual(spoiling(schedule, ("c", "d")), (
            ("col", (("text", ("get", "c")),)), {"a": 0, "b": 0, "c": 0}, {"a": 0, "b": 0, "c": 1}))

    def test_names_in_the_order_of_the_schedule(self):
        shape, before, after = spoiling(Schedule(("b", "a"), [("b",)]), ("a", "b"))
        self.assertEqual(shape, ("col", (("text", ("get", "b")), ("text", ("get", "a")))))
        self.assertEqual((list(before), after), (["b", "a"], {"b": 0, "a": 1}))


if __name__ == "__main__":
    unittest.main()
