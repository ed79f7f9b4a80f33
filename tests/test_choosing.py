import unittest

from drawnanew.choosing import all_sets, least_sets


class Sets(unittest.TestCase):
    def test_all_sets_by_number_then_by_places(self):
        self.assertEqual(all_sets([]), [()])
        self.assertEqual(all_sets("c"), [(), ("c",)])
        self.assertEqual(all_sets(["c", "a", "b"]), [
            (), ("c",), ("a",), ("b",), ("c", "a"), ("c", "b"), ("a", "b"), ("c", "a", "b")])
        self.assertEqual(len(all_sets(range(5))), 32)

    def test_least_sets(self):
        self.assertEqual(least_sets([1, 2], lambda chosen: True), [()])
        self.assertEqual(least_sets([1, 2], lambda chosen: False), [])
        self.assertEqual(least_sets([1, 2, 3], lambda chosen: sum(chosen) >= 3), [(3,), (1, 2)])
        self.assertEqual(least_sets([3, 1, 2], lambda chosen: len(chosen) == 2), [(3, 1), (3, 2), (1, 2)])

    def test_what_has_a_least_set_as_a_part_is_not_asked_for(self):
        asked = []

        def holds(chosen):
            asked.append(chosen)
            return 2 in chosen

        self.assertEqual(least_sets([1, 2, 3], holds), [(2,)])
        self.assertEqual(asked, [(), (1,), (2,), (3,), (1, 3)])


if __name__ == "__main__":
    unittest.main()
