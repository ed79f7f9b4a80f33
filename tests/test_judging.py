import unittest

from drawnanew.anew import Anew
from drawnanew.errors import BadEvent, Blamed, ScreenError, TooMany, Wrong
from drawnanew.judging import Verdict, assure, blame, judge, wrong_at
from drawnanew.marks import mended
from drawnanew.sessions import KINDS, Session, disagreement
from tests.helpers import dice
from tests.houses import (
    AT, GROW, ITEM, counters, grey_island, inc, isle, late, lost_focus, many_stands, old_effect, stale, stale_twice,
    swapped, take, unasked, with_islands,
)
from tests.making import is_plain, random_house, small

SWAP = ("press", (), "swap")


def wrong(house, kinds=KINDS):
    verdict = judge(house, kinds)
    return (verdict.right, verdict.row, verdict.what, verdict.stands)


def stood(house, row):
    """A Session and an Anew behind the row."""
    session, anew = Session(house), Anew(house)
    for event in row:
        session.do(event)
        anew.do(event)
    return session, anew


def by_hand(house, kinds, most=16):
    """The first wrong row and its part, or the stands, worked out with the objects of the interface alone."""
    rows, known, stands = [[]], {}, []
    part = disagreement(*stood(house, []))
    if part:
        return [], part, []
    session, anew = stood(house, [])
    known[session.likeness(), anew.likeness()] = 0
    while len(stands) < len(rows):
        row = rows[len(stands)]
        session, anew = stood(house, row)
        numbers = []
        for event in session.events(kinds):
            one, two = stood(house, row + [event])
            part = disagreement(one, two)
            if part:
                return row + [event], part, []
            key = one.likeness(), two.likeness()
            if key not in known:
                known[key] = len(rows)
                rows.append(row + [event])
            numbers.append(known[key])
        stands.append((row, tuple(numbers)))
        if len(rows) > most:
            return None
    return None, None, stands


class Right(unittest.TestCase):
    def test_a_closed_table_of_stands(self):
        house = counters(3)
        verdict = judge(house, ("press",))
        press = ("press", (), "a")
        self.assertIsInstance(verdict, Verdict)
        self.assertIs(verdict.right, True)
        self.assertIsNone(verdict.row)
        self.assertIsNone(verdict.what)
        self.assertEqual(verdict.stands, [([], (1,)), ([press], (2,)), ([press, press], (0,))])

    def test_stands_stand_in_the_order_of_their_first_rows(self):
        a, b = ("press", (), "a"), ("press", (), "b")
        self.assertEqual(judge(counters(2, 2), ("press",)).stands, [
            ([], (1, 2)), ([a], (0, 3)), ([b], (3, 0)), ([a, b], (2, 1))])

    def test_the_focus_tells_stands_apart(self):
        stands = judge(counters(1), ("next", "back", "enter")).stands
        self.assertEqual(stands, [([], (1, 1)), ([("next",)], (1, 1, 1))])

    def test_a_stand_without_events(self):
        self.assertEqual(judge(counters(2), ()).stands, [([], ())])
        self.assertEqual(judge(counters(2), ("land", "far", "take")).stands, [([], ())])

    def test_all_kinds_are_meant_if_none_are_told(self):
        house = counters(2)
        self.assertEqual(judge(house).stands, judge(house, KINDS).stands)
        self.assertEqual(len(judge(house).stands), 4)
        self.assertEqual(len(judge(house).stands[0][1]), 3)

    def test_editions_and_open_questions(self):
        stands = judge(late("last").changed(far=((1, 2, 3, 1), (2, 1, 1, 1))), ("far", "land")).stands
        land, far = ("land", 0), ("far",)
        # The eldest question keeps the answer of its edition, so that the last two stands are one.
        self.assertEqual(stands, [([], (1, 2)), ([land], (3,)), ([far], (3,)), ([land, far], ())])

    def test_the_new_machine_tells_stands_apart_too(self):
        house = grey_island()
        press = ("press", ((1,),), "inc")
        verdict = judge(house, ("press",))
        self.assertEqual(verdict.stands, [([], (1,)), ([press], (2,)), ([press, press], (0,))])
        likes = [stood(house, row)[0].likeness() for row, _ in verdict.stands]
        self.assertEqual(likes, [likes[0]] * 3)

    def test_the_kept_machine_tells_stands_apart_too(self):
        house = with_islands(("takes", True), size=1)
        verdict = judge(house, ("take",))
        self.assertEqual(verdict.stands, [([], (1,)), ([take(0)], ())])
        likes = [stood(house, row)[1].likeness() for row, _ in verdict.stands]
        self.assertEqual(likes[0], likes[1])

    def test_the_verdict_belongs_to_the_caller(self):
        house = counters(2)
        judge(house, ("press",)).stands.clear()
        self.assertEqual(len(judge(house, ("press",)).stands), 2)
        rows = [row for row, _ in judge(house).stands]
        rows[1].append("more")
        self.assertEqual([len(row) for row in rows], [0, 2, 1, 2])


class NotRight(unittest.TestCase):
    def test_page(self):
        self.assertEqual(wrong(stale(), ("press",)), (False, [GROW], "page", []))
        self.assertEqual(wrong(stale()), (False, [GROW], "page", []))

    def test_focus(self):
        house = lost_focus()
        self.assertEqual(wrong(house), (False, [("back",), SWAP], "focus", []))
        self.assertEqual(wrong(house, ("press", "next")), (False, [("next",), ("next",), SWAP], "focus", []))

    def test_effects(self):
        self.assertEqual(wrong(old_effect()), (False, [GROW], "effects", []))

    def test_asks(self):
        self.assertEqual(wrong(unasked()), (False, [GROW], "asks", []))

    def test_the_first_of_several_parts(self):
        house = stale()
        root = house["root"].changed(effects=(("title", ("get", "size"), ()),))
        self.assertEqual(wrong(house.replaced(root))[2], "page")

    def test_the_empty_row(self):
        house = with_islands(("takes", False), elder=(("size", 1),))
        self.assertEqual(wrong(house), (False, [], "page", []))
        self.assertEqual(wrong(house, ()), (False, [], "page", []))

    def test_few_kinds(self):
        house = lost_focus()
        self.assertTrue(judge(house, ("press",)).right)
        self.assertTrue(judge(house, ("next", "back", "enter")).right)
        # Two presses by the focus: the last `go` has it, and a swap is needed, too.
        self.assertEqual(wrong(house, ("press", "back"))[1], [("back",), SWAP])
        self.assertTrue(judge(stale(), ("next", "back", "land", "far", "take")).right)
        self.assertEqual(wrong(stale(), ("next", "enter"))[1], [("next",), ("enter",)])

    def test_late_answers(self):
        for fence in ("any", "own"):
            row = [GROW, ("land", 0)]
            self.assertEqual(wrong(late(fence), ("press", "land")), (False, row, "page", []))
        for fence in ("same", "both"):
            row = [GROW, GROW, ("land", 0)]
            self.assertEqual(wrong(late(fence), ("press", "land")), (False, row, "page", []))
        self.assertTrue(judge(late("last"), ("press", "land")).right)

    def test_islands(self):
        self.assertEqual(wrong(with_islands(("lost", True)), ("press", "take")), (False, [inc(0)], "page", []))
        row = [inc(0)] * 4 + [take(0)]
        self.assertEqual(wrong(with_islands(("kept", True), size=1), ("press", "take")), (False, row, "page", []))
        self.assertTrue(judge(with_islands(("takes", True)), ("press", "take")).right)

    def test_a_row_is_not_wrong_while_the_session_is_not_at_rest(self):
        verdict = judge(with_islands(("kept", True), size=1), ("press",))
        self.assertTrue(verdict.right)
        self.assertGreater(len(verdict.stands), 4)

    def test_the_row_belongs_to_the_caller(self):
        house = stale()
        judge(house).row.append("more")
        self.assertEqual(judge(house).row, [GROW])


class TooManyStands(unittest.TestCase):
    def test_just_600_stands(self):
        verdict = judge(many_stands(False), ("press",))
        self.assertTrue(verdict.right)
        self.assertEqual(len(verdict.stands), 600)
        self.assertEqual(assure(many_stands(False), ("press",)), 600)

    def test_a_601st_stand(self):
        for call in (judge, assure):
            with self.subTest(call), self.assertRaises(TooMany) as caught:
                call(many_stands(True), ("press",))
            self.assertEqual(caught.exception.count, 601)

    def test_a_wrong_row_that_is_met_ahead_of_it(self):
        house = counters(4, 4, 4, 4, 4, weak=True)
        self.assertEqual(wrong(house, ("press",)), (False, [("press", (), "e")], "page", []))
        with self.assertRaises(TooMany):
            judge(mended(house, ("looks", "shown")), ("press",))


class WrongAt(unittest.TestCase):
    def test_none(self):
        self.assertIsNone(wrong_at(stale(), []))
        self.assertIsNone(wrong_at(stale(), [("next",), ("far",), ("land", 3)]))
        self.assertIsNone(wrong_at(counters(3), [("press", (), "a")] * 7))

    def test_at_the_start(self):
        house = with_islands(("takes", False), elder=(("size", 1),))
        self.assertEqual(wrong_at(house, []), 0)
        self.assertEqual(wrong_at(house, [GROW, GROW]), 0)

    def test_behind_some_event(self):
        self.assertEqual(wrong_at(stale(), [GROW]), 1)
        self.assertEqual(wrong_at(stale(), [GROW, GROW, GROW]), 1)
        self.assertEqual(wrong_at(stale(), [("next",), ("enter",), ("next",)]), 2)
        self.assertEqual(wrong_at(stale(), [("far",), ("point", 50, 50), ("point", 1, 0)]), 3)

    def test_the_first_one_counts_even_if_they_agree_at_the_end(self):
        self.assertIsNone(disagreement(*stood(stale(), [GROW] * 3)))
        self.assertEqual(wrong_at(stale(), [GROW] * 3), 1)

    def test_a_bad_event(self):
        with self.assertRaises(BadEvent) as caught:
            wrong_at(stale(), [("next",), ("press", ())])
        self.assertEqual(caught.exception.event, ("press", ()))

    def test_the_row_stays(self):
        row = [("next",), GROW]
        wrong_at(stale(), row)
        blame(stale(), row)
        self.assertEqual(row, [("next",), GROW])


class Blame(unittest.TestCase):
    def test_one_mark(self):
        self.assertEqual(blame(stale(), [GROW]), ("looks", "shown"))
        self.assertEqual(blame(old_effect(), [GROW]), ("effect", "root", "title"))
        self.assertEqual(blame(unasked(), [GROW]), ("looks", "asker"))
        self.assertEqual(blame(late("own"), [GROW, ("land", 0)]), ("fence", "asker", "reply"))
        self.assertEqual(blame(lost_focus(), [("back",), SWAP]), ("key", "root", 2))
        self.assertEqual(blame(with_islands(("lost", True)), [inc(0)]), ("island", "islea"))
        self.assertEqual(isle(0), ((2,),))

    def test_the_first_one_of_several(self):
        self.assertEqual(blame(swapped(AT, ()), [SWAP]), ("key", "root", 2))
        house = swapped(AT, ())
        turned = house.changed(components=[house["kid"], house["root"]])
        self.assertEqual(blame(turned, [SWAP]), ("looks", "kid"))

    def test_other_weak_marks_are_passed_by(self):
        house = stale()
        root = house["root"].changed(asks=(("q", ("is", 1), "any"),), effects=(("one", ("get", "q"), ()),))
        self.assertEqual(blame(house.replaced(root), [GROW]), ("looks", "shown"))

    def test_none_where_no_single_mark_is_to_blame(self):
        house = stale_twice()
        self.assertEqual(wrong_at(house, [GROW]), 1)
        self.assertIsNone(blame(house, [GROW]))

    def test_none_for_a_row_that_is_not_wrong(self):
        self.assertIsNone(blame(stale(), []))
        self.assertIsNone(blame(stale(), [("next",)]))
        self.assertIsNone(blame(swapped(ITEM, ()), [SWAP]))

    def test_a_mark_that_only_shortens_the_wrong_row_is_not_to_blame(self):
        house = with_islands(("lost", True), ("lost", True))
        self.assertEqual(blame(house, [inc(1)]), ("island", "isleb"))
        self.assertIsNone(blame(house, [inc(1), inc(0)]))


class Assure(unittest.TestCase):
    def test_the_number_of_stands(self):
        self.assertEqual(assure(counters(3), ("press",)), 3)
        self.assertEqual(assure(counters(2, 2), ("press",)), 4)
        self.assertEqual(assure(counters(2)), 4)
        self.assertEqual(assure(stale(), ("next", "back")), 2)

    def test_wrong_from_blamed(self):
        for house, row, mark in [
            (stale(), [GROW], ("looks", "shown")), (stale_twice(), [GROW], None),
            (old_effect(), [GROW], ("effect", "root", "title")),
        ]:
            with self.subTest(mark), self.assertRaises(Wrong) as caught:
                assure(house)
            self.assertEqual(caught.exception.row, row)
            cause = caught.exception.__cause__
            self.assertIsInstance(cause, Blamed)
            self.assertEqual(cause.mark, mark)

    def test_few_kinds(self):
        with self.assertRaises(Wrong) as caught:
            assure(stale(), ("next", "enter"))
        self.assertEqual(caught.exception.row, [("next",), ("enter",)])
        self.assertEqual(caught.exception.__cause__.mark, ("looks", "shown"))


class Seeds(unittest.TestCase):
    def test_held_against_rows_that_are_done_anew_each_time(self):
        seen = {"right": 0, "page": 0, "effects": 0, "asks": 0, "focus": 0, "later": 0}
        for seed in range(160):
            house = random_house(dice(700 + seed), False, islands=seed % 3 == 0)
            kinds = [KINDS, ("press", "land"), ("press", "take", "next"), ("far", "press", "back", "enter")][seed % 4]
            told = by_hand(house, kinds)
            if told is None:
                continue
            verdict = judge(house, kinds)
            self.assertEqual((verdict.row, verdict.what, verdict.stands), told, seed)
            self.assertIs(verdict.right, told[0] is None)
            seen["right" if verdict.right else verdict.what] += 1
            if not verdict.right:
                self.assertEqual(wrong_at(house, verdict.row), len(verdict.row))
                seen["later"] += len(verdict.row) > 1
        self.assertTrue(all([seen[word] > 0 for word in ("right", "page", "effects", "asks", "later")]), seen)

    def test_houses_without_weak_marks_are_right(self):
        right = 0
        for seed in range(90):
            house = small(random_house(dice(40 + seed), True, islands=seed % 3 == 0))
            if is_plain(house):
                try:
                    self.assertTrue(judge(house, ("press", "land", "far", "take") if seed % 2 else KINDS).right)
                except TooMany:
                    continue
                right += 1
        self.assertGreater(right, 30)

    def test_each_row_of_a_table_leads_to_the_stand_that_it_tells(self):
        many = 0
        for seed in range(25):
            house = random_house(dice(900 + seed), False, islands=seed % 2 == 0)
            try:
                verdict = judge(house, ("press", "land", "take"))
            except ScreenError:
                continue
            for row, numbers in verdict.stands[:8]:
                session, _ = stood(house, row)
                events = session.events(("press", "land", "take"))
                self.assertEqual(len(events), len(numbers))
                for event, number in list(zip(events, numbers))[:3]:
                    one = stood(house, row + [event])
                    two = stood(house, verdict.stands[number][0])
                    self.assertEqual([told.likeness() for told in one], [told.likeness() for told in two])
                    self.assertEqual(one[0].look(), two[0].look())
                    many += 1
        self.assertGreater(many, 100)


if __name__ == "__main__":
    unittest.main()
