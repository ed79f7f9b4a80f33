import itertools
import unittest

from drawnanew.effects import Effects, behind, parted, sound
from drawnanew.errors import ArmedTwice, NoName, NotArmed, OldValue, TooMany
from drawnanew.forms import Form
from drawnanew.needs import enough, settings
from tests.helpers import dice

ROOT = ()
LEAF = ((2,),)


class Bringing(unittest.TestCase):
    def test_arming_in_the_order_of_the_list(self):
        board = Effects()
        self.assertEqual(board.armed(), [])
        log = board.bring([(LEAF, "b", 4, ()), (ROOT, "a", 1, (1, 2)), (ROOT, "b", 0, ())])
        self.assertEqual(log, [("arm", LEAF, "b", 4), ("arm", ROOT, "a", 1), ("arm", ROOT, "b", 0)])
        self.assertEqual(board.armed(), [(LEAF, "b", 4), (ROOT, "a", 1), (ROOT, "b", 0)])

    def test_nothing(self):
        board = Effects()
        self.assertEqual(board.bring([]), [])
        self.assertEqual(board.armed(), [])

    def test_the_same_list_again(self):
        board = Effects()
        board.bring([(ROOT, "a", 1, (1,)), (LEAF, "a", 2, (2,))])
        self.assertEqual(board.bring([(LEAF, "a", 2, (2,)), (ROOT, "a", 1, (1,))]), [])
        self.assertEqual(board.armed(), [(ROOT, "a", 1), (LEAF, "a", 2)])

    def test_the_same_seen_keeps_the_old_value(self):
        board = Effects()
        board.bring([(ROOT, "a", 1, (7,))])
        self.assertEqual(board.bring([(ROOT, "a", 5, (7,))]), [])
        self.assertEqual(board.armed(), [(ROOT, "a", 1)])
        log = board.bring([(ROOT, "a", 5, (8,))])
        self.assertEqual(log, [("clean", ROOT, "a", 1), ("arm", ROOT, "a", 5)])

    def test_another_seen_arms_again_also_with_the_same_value(self):
        board = Effects()
        board.bring([(ROOT, "a", 1, (7,)), (ROOT, "b", 2, ())])
        log = board.bring([(ROOT, "a", 1, (8,)), (ROOT, "b", 2, ())])
        self.assertEqual(log, [("clean", ROOT, "a", 1), ("arm", ROOT, "a", 1)])
        self.assertEqual(board.armed(), [(ROOT, "b", 2), (ROOT, "a", 1)])

    def test_cleaned_in_the_reverse_order_of_arming(self):
        board = Effects()
        board.bring([(ROOT, "a", 1, ()), (ROOT, "b", 2, ()), (LEAF, "a", 3, ())])
        board.bring([(ROOT, "a", 1, (1,)), (ROOT, "b", 2, ()), (LEAF, "a", 3, ())])
        log = board.bring([(LEAF, "a", 4, (9,)), (LEAF, "c", 5, ())])
        self.assertEqual(log, [
            ("clean", ROOT, "a", 1), ("clean", LEAF, "a", 3), ("clean", ROOT, "b", 2),
            ("arm", LEAF, "a", 4), ("arm", LEAF, "c", 5),
        ])
        self.assertEqual(board.bring([]), [("clean", LEAF, "c", 5), ("clean", LEAF, "a", 4)])
        self.assertEqual(board.armed(), [])

    def test_owner_and_word_are_a_pair(self):
        board = Effects()
        board.bring([(ROOT, "a", 1, ())])
        self.assertEqual(board.bring([(LEAF, "a", 1, ())]), [("clean", ROOT, "a", 1), ("arm", LEAF, "a", 1)])

    def test_armed_twice(self):
        board = Effects()
        board.bring([(ROOT, "a", 1, (1,)), (ROOT, "b", 2, ())])
        wrong = [
            (LEAF, "a", 0, ()), (ROOT, "a", 9, (2,)), (LEAF, "b", 0, ()), (LEAF, "b", 0, ()), (LEAF, "a", 1, (1,)),
        ]
        with self.assertRaises(ArmedTwice) as caught:
            board.bring(wrong)
        self.assertEqual((caught.exception.owner, caught.exception.word), (LEAF, "b"))
        self.assertEqual(board.armed(), [(ROOT, "a", 1), (ROOT, "b", 2)])
        self.assertEqual(board.bring([(ROOT, "a", 1, (1,)), (ROOT, "b", 2, ())]), [])

    def test_armed_twice_is_told_of_the_first_entry_whose_pair_came_before(self):
        with self.assertRaises(ArmedTwice) as caught:
            Effects().bring([(ROOT, "a", 1, ()), (ROOT, "b", 1, ()), (ROOT, "b", 1, ()), (ROOT, "a", 1, ())])
        self.assertEqual((caught.exception.owner, caught.exception.word), (ROOT, "b"))

    def test_the_list_is_neither_changed_nor_kept(self):
        board = Effects()
        entries = [(ROOT, "a", 1, (1,))]
        log = board.bring(entries)
        self.assertEqual(entries, [(ROOT, "a", 1, (1,))])
        entries.clear()
        log.clear()
        board.armed().clear()
        self.assertEqual(board.armed(), [(ROOT, "a", 1)])

    def test_copy(self):
        board = Effects()
        board.bring([(ROOT, "a", 1, (1,)), (LEAF, "a", 2, ())])
        twin = board.copy()
        self.assertIsInstance(twin, Effects)
        self.assertEqual(twin.armed(), board.armed())
        twin.bring([])
        self.assertEqual(board.armed(), [(ROOT, "a", 1), (LEAF, "a", 2)])
        third = board.copy()
        self.assertEqual(board.bring([(ROOT, "a", 3, (2,))]), [
            ("clean", LEAF, "a", 2), ("clean", ROOT, "a", 1), ("arm", ROOT, "a", 3)])
        self.assertEqual(third.armed(), [(ROOT, "a", 1), (LEAF, "a", 2)])
        self.assertEqual(third.bring([(ROOT, "a", 3, (1,)), (LEAF, "a", 2, ())]), [])

    def test_logs_are_sound_and_tell_what_is_armed(self):
        die = dice(25)
        for _ in range(60):
            board, whole = Effects(), []
            for _ in range(12):
                pairs = die.sample([(owner, word) for owner in (ROOT, LEAF) for word in "abc"], die.randrange(7))
                entries = [(owner, word, die.randrange(3), (die.randrange(2),)) for owner, word in pairs]
                whole.extend(board.bring(entries))
                self.assertEqual(sound(whole), board.armed())
                self.assertEqual({row[:2] for row in board.armed()}, set(pairs))


class Sound(unittest.TestCase):
    def test_what_is_armed_behind_the_log(self):
        log = [("arm", ROOT, "a", 1), ("arm", LEAF, "a", 2), ("clean", ROOT, "a", 1), ("arm", ROOT, "b", 0),
               ("arm", ROOT, "a", 3)]
        self.assertEqual(sound(log), [(LEAF, "a", 2), (ROOT, "b", 0), (ROOT, "a", 3)])
        self.assertEqual(sound([]), [])
        self.assertEqual(len(log), 5)

    def wrong(self, error, owner, word, *log):
        with self.assertRaises(error) as caught:
            sound(list(log))
        self.assertEqual((caught.exception.owner, caught.exception.word), (owner, word))

    def test_each_error_at_the_first_row(self):
        arm, clean = ("arm", ROOT, "a", 1), ("clean", ROOT, "a", 1)
        self.wrong(ArmedTwice, ROOT, "a", arm, ("arm", ROOT, "a", 2))
        self.wrong(NotArmed, ROOT, "a", clean)
        self.wrong(NotArmed, LEAF, "a", arm, ("clean", LEAF, "a", 1))
        self.wrong(NotArmed, ROOT, "b", arm, ("clean", ROOT, "b", 1))
        self.wrong(NotArmed, ROOT, "a", arm, clean, clean)
        self.wrong(OldValue, ROOT, "a", arm, ("clean", ROOT, "a", 0))
        self.wrong(OldValue, ROOT, "a", arm, ("clean", ROOT, "a", 0), clean, clean)
        self.wrong(ArmedTwice, ROOT, "a", arm, arm, ("clean", LEAF, "b", 0))
        self.wrong(NotArmed, LEAF, "b", ("clean", LEAF, "b", 0), arm, arm)


class Behind(unittest.TestCase):
    def test_entries_that_are_armed_with_another_value(self):
        board = Effects()
        board.bring([(ROOT, "a", 1, ()), (ROOT, "b", 2, (5,)), (LEAF, "a", 3, ())])
        entries = [(LEAF, "a", 4, ()), (ROOT, "b", 2, (6,)), (ROOT, "a", 0, (9,)), (LEAF, "c", 7, ())]
        self.assertEqual(behind(board, entries), [(LEAF, "a", 3, 4), (ROOT, "a", 1, 0)])
        self.assertEqual(behind(board, []), [])
        self.assertEqual(behind(Effects(), entries), [])
        self.assertEqual(board.armed(), [(ROOT, "a", 1), (ROOT, "b", 2), (LEAF, "a", 3)])

    def test_a_list_that_is_not_enough(self):
        board = Effects()
        board.bring([(ROOT, "e", 0, (1,))])
        entries = [(ROOT, "e", 1, (1,))]
        board.bring(entries)
        self.assertEqual(behind(board, entries), [(ROOT, "e", 0, 1)])


SUM = ("sum", ("get", "a"), ("get", "b"))
RANGES = [("a", 2), ("b", 3)]


class Parted(unittest.TestCase):
    def test_first_pair(self):
        self.assertEqual(parted(SUM, RANGES, ["a"]), ({"a": 0, "b": 0}, {"a": 0, "b": 1}))
        self.assertEqual(parted(SUM, RANGES, ["b"]), ({"a": 0, "b": 0}, {"a": 1, "b": 0}))
        self.assertEqual(parted(SUM, RANGES, []), ({"a": 0, "b": 0}, {"a": 0, "b": 1}))
        self.assertIsNone(parted(SUM, RANGES, ["b", "a"]))
        self.assertIsNone(parted(SUM, RANGES, ["a", "b", "c"]))

    def test_the_first_of_the_pair_may_come_late(self):
        form = ("pick", ("get", "a"), ("same", ("get", "b"), ("is", 2)), ("is", 7))
        self.assertEqual(parted(form, RANGES, ["a"]), ({"a": 1, "b": 0}, {"a": 1, "b": 2}))
        self.assertEqual(parted(form, RANGES, ("b",)), ({"a": 0, "b": 0}, {"a": 1, "b": 0}))

    def test_no_ranges_and_names_that_the_ranges_lack(self):
        self.assertIsNone(parted(("is", 3), [], []))
        self.assertEqual(parted(("get", "a"), RANGES, ["c"]), ({"a": 0, "b": 0}, {"a": 1, "b": 0}))

    def test_no_name(self):
        with self.assertRaises(NoName) as caught:
            parted(("get", "c"), RANGES, [])
        self.assertEqual(caught.exception.name, "c")

    def test_too_many(self):
        ranges = [(name, 4) for name in "abcd"]
        self.assertIsNone(parted(("is", 0), ranges, []))
        with self.assertRaises(TooMany) as caught:
            parted(("get", "none"), ranges + [("e", 2)], [])
        self.assertEqual(caught.exception.count, 512)

    def test_against_all_pairs_and_needs(self):
        forms = [
            SUM, ("is", 1), ("same", ("get", "a"), ("get", "c")), ("pick", ("get", "b"), ("get", "c"), ("get", "a")),
            ("sum", ("get", "c"), ("sum", ("get", "c"), ("is", 1))),
        ]
        ranges = [("a", 2), ("b", 3), ("c", 2)]
        for form in forms:
            for many in range(4):
                for names in itertools.combinations("abc", many):
                    rows = list(settings(ranges))
                    pairs = [
                        (one, two) for one in rows for two in rows
                        if all([one[name] == two[name] for name in names]) and Form(form)(one) != Form(form)(two)
                    ]
                    self.assertEqual(parted(form, ranges, list(names)), pairs[0] if pairs else None)
                    self.assertEqual(parted(form, ranges, list(names)) is None, enough(Form(form), ranges, names))


if __name__ == "__main__":
    unittest.main()
