import itertools
import unittest

from drawnanew.anew import Anew
from drawnanew.components import Component
from drawnanew.errors import BadEvent, TooMany
from drawnanew.houses import House
from drawnanew.islands import end_look, first_unlike, least_lots, woven
from drawnanew.sessions import Session, play
from drawnanew.shapes import button_shape, col_shape, each_shape, put_shape, text_shape
from tests.helpers import deed, dice, fix, get, plus
from tests.houses import GROW, counters, inc, isle, stale, take, with_islands
from tests.making import random_house

LOST, KEPT, TAKES = ("lost", True), ("kept", True), ("takes", True)
FAR = ("far",)


def all_woven(events, places):
    """All weavings, from all ways to put the events and the takes in a row, by what comes first at each place."""
    things = [("event", at) for at in range(len(events))] + [("take", at) for at in range(len(places))]
    rows = []
    for row in itertools.permutations(range(len(things))):
        told = [at for at in row if at < len(events)]
        if told == sorted(told):
            # The events all count alike here, since just one of them can come next.
            rows.append(([0 if at < len(events) else at for at in row], row))
    rows.sort()
    return [[events[at] if at < len(events) else ("take", places[at - len(events)]) for at in row] for _, row in rows]


def new_end(house, events):
    anew = Anew(house)
    for event in events:
        anew.do(event)
    return anew.look()


def five_islands():
    """Five islands in one row."""
    kid = Component("kid", col_shape(button_shape("inc")), cells=(("many", 4, 0),), deeds=(
        deed("inc", "many", plus("many")),), island=LOST)
    shape = col_shape(each_shape(fix(0), ((1, 2, 3, 4, 5),), ("get", "item"), "kid"))
    return House([Component("root", shape), kid], "root")


def two_words():
    """Two islands without deeds; what the press goes up to keeps the word that came last."""
    kids = [Component("is" + word, col_shape(button_shape(word)), island=KEPT) for word in ("left", "right")]
    deeds = (deed("left", "last", fix(1)), deed("right", "last", fix(2)))
    shape = col_shape(text_shape(get("last")), put_shape("isleft"), put_shape("isright"))
    root = Component("root", shape, cells=(("last", 3, 0),), deeds=deeds)
    return House([root] + kids, "root")


class Woven(unittest.TestCase):
    def test_no_event_and_no_place(self):
        self.assertEqual(list(woven([], [])), [[]])

    def test_no_place(self):
        self.assertEqual(list(woven([GROW, FAR], [])), [[GROW, FAR]])

    def test_no_event(self):
        a, b = take(0), take(1)
        self.assertEqual(list(woven([], [isle(0)])), [[a]])
        self.assertEqual(list(woven([], [isle(0), isle(1)])), [[a, b], [b, a]])
        self.assertEqual(list(woven([], [isle(1), isle(0)])), [[b, a], [a, b]])

    def test_the_next_event_comes_first_then_the_takes_in_the_order_of_the_places(self):
        a, b = take(0), take(1)
        self.assertEqual(list(woven([GROW], [isle(0)])), [[GROW, a], [a, GROW]])
        self.assertEqual(list(woven([GROW], [isle(0), isle(1)])), [
            [GROW, a, b], [GROW, b, a], [a, GROW, b], [a, b, GROW], [b, GROW, a], [b, a, GROW]])
        self.assertEqual(list(woven([GROW, FAR], [isle(0)])), [[GROW, FAR, a], [GROW, a, FAR], [a, GROW, FAR]])

    def test_equal_events_are_all_told(self):
        a = take(0)
        self.assertEqual(list(woven([FAR, FAR], [isle(0)])), [[FAR, FAR, a], [FAR, a, FAR], [a, FAR, FAR]])
        self.assertEqual(list(woven([a], [isle(0)])), [[a, a], [a, a]])
        self.assertEqual(list(woven([a, FAR], [isle(0)])), [[a, FAR, a], [a, a, FAR], [a, a, FAR]])
        self.assertEqual(list(woven([], [isle(0), isle(0)])), [[a, a], [a, a]])

    def test_held_against_all_rows(self):
        for events, places in itertools.product(range(5), range(4)):
            told = [("point", at, at) for at in range(events)]
            found = list(woven(told, [isle(at) for at in range(places)]))
            self.assertEqual(found, all_woven(told, [isle(at) for at in range(places)]))
            many = 1
            for at in range(places):
                many *= events + at + 1
            self.assertEqual(len(found), many)

    def test_the_lists_stay_and_belong_to_the_caller(self):
        events, places = [GROW, FAR], [isle(0)]
        found = woven(events, places)
        first = next(found)
        first.clear()
        self.assertEqual(list(found), [[GROW, take(0), FAR], [take(0), GROW, FAR]])
        self.assertEqual((events, places), ([GROW, FAR], [isle(0)]))
        only = next(woven(events, []))
        only.clear()
        self.assertEqual(events, [GROW, FAR])

    def test_nothing_is_done_before_it_is_iterated(self):
        events = [GROW]
        rows = woven(events, [])
        events.append(FAR)
        self.assertEqual(list(rows), [[GROW, FAR]])
        woven(None, None)


class EndLook(unittest.TestCase):
    def test_the_look_of_a_new_session_behind_the_events(self):
        house = with_islands(LOST, KEPT)
        for row in [[], [GROW], [inc(0), inc(1), take(1)], [("next",), GROW, take(0), inc(0)]]:
            self.assertEqual(end_look(house, row), play(house, row)[-1])
        self.assertNotEqual(end_look(house, [take(0), inc(0)]), end_look(house, [inc(0), take(0)]))

    def test_a_bad_event(self):
        with self.assertRaises(BadEvent):
            end_look(with_islands(LOST), [("take",)])


class FirstUnlike(unittest.TestCase):
    def test_islands_that_agree(self):
        for island in (KEPT, TAKES):
            with self.subTest(island):
                self.assertIsNone(first_unlike(with_islands(island), [inc(0), inc(0), GROW]))
                self.assertIsNone(first_unlike(with_islands(island, island), [inc(0), inc(1)]))
        self.assertIsNone(first_unlike(with_islands(LOST, LOST), [GROW, ("next",), FAR]))
        self.assertIsNone(first_unlike(with_islands(LOST), []))

    def test_a_lost_press(self):
        house = with_islands(LOST)
        self.assertEqual(first_unlike(house, [inc(0)]), [inc(0), take(0)])
        # Behind GROW the island is taken over, so that the press is lost only ahead of it.
        self.assertIsNone(first_unlike(house, [GROW, inc(0)]))
        self.assertEqual(first_unlike(house, [inc(0), GROW]), [inc(0), GROW, take(0)])

    def test_the_first_weaving_that_is_unlike_need_not_be_the_first_one(self):
        house = with_islands(LOST, KEPT, size=1)
        self.assertEqual(first_unlike(house, [inc(1), inc(1)]), None)
        self.assertEqual(first_unlike(house, [take(0), inc(0)]), None)
        self.assertEqual(first_unlike(house, [inc(0), inc(1)]), [inc(0), inc(1), take(0), take(1)])
        house = with_islands(KEPT, KEPT, size=1)
        row = [inc(0), inc(0), inc(1), inc(1)]
        self.assertEqual(first_unlike(house, row), row + [take(0), take(1)])

    def test_later_weavings_count_too(self):
        house = two_words()
        left, right = ("press", ((2,),), "left"), ("press", ((3,),), "right")
        late, early = ("take", ((2,),)), ("take", ((3,),))
        self.assertEqual(first_unlike(house, [left, right]), [left, right, early, late])
        self.assertEqual(least_lots(house, [left, right]), [()])
        self.assertEqual(first_unlike(house, [right, left]), [right, left, late, early])
        self.assertEqual(least_lots(house, [right, left]), [(((3,),),)])

    def test_an_island_that_is_stale_until_it_is_pressed(self):
        kid = with_islands(TAKES, size=2)["islea"].changed(looks=())
        house = with_islands(TAKES, size=2, elder=(("size", 1),)).replaced(kid)
        self.assertEqual(first_unlike(house, []), [take(0)])
        self.assertIsNone(first_unlike(house, [inc(0)]))
        self.assertEqual(least_lots(house, []), [])

    def test_takes_in_the_row_itself(self):
        house = with_islands(LOST, size=1)
        self.assertIsNone(first_unlike(house, [take(0), inc(0), ("take", ((9,),))]))
        self.assertEqual(first_unlike(house, [inc(0), take(0)]), [inc(0), take(0), take(0)])

    def test_a_house_without_islands(self):
        self.assertIsNone(first_unlike(counters(3), [("press", (), "a")]))
        self.assertIsNone(first_unlike(counters(3), []))
        self.assertEqual(first_unlike(stale(), [GROW]), [GROW])
        self.assertIsNone(first_unlike(stale(), [GROW] * 3))

    def test_just_210_weavings(self):
        house = with_islands(TAKES, KEPT, LOST, size=1)
        self.assertIsNone(first_unlike(house, [inc(0), inc(1), inc(0), GROW]))
        self.assertEqual(first_unlike(with_islands(LOST, size=1), [FAR] * 208 + [inc(0)]), [FAR] * 208 + [inc(0), take(0)])
        self.assertIsNone(first_unlike(with_islands(TAKES, KEPT, size=1), [inc(0)] * 10 + [inc(1)] * 3))

    def test_more_than_210_weavings(self):
        for islands, events, many in [(3, 5, 336), (2, 14, 240), (1, 210, 211), (4, 2, 360)]:
            with self.subTest(many), self.assertRaises(TooMany) as caught:
                first_unlike(with_islands(*[LOST] * islands, size=1), [FAR] * events)
            self.assertEqual(caught.exception.count, many)

    def test_too_many_is_told_ahead_of_a_bad_event(self):
        with self.assertRaises(TooMany):
            first_unlike(with_islands(LOST), [("far", 1)] * 210)
        with self.assertRaises(BadEvent):
            first_unlike(with_islands(LOST), [("far", 1)])

    def test_islands_that_are_taken_over_at_the_start_are_none(self):
        house = with_islands(TAKES, KEPT, elder=(("size", 2),))
        self.assertEqual(Session(house).frozen(), [])
        self.assertIsNone(first_unlike(house, [FAR] * 300))

    def test_the_row_stays(self):
        row = [inc(0)]
        first_unlike(with_islands(LOST), row).append("more")
        least_lots(with_islands(LOST), row)
        self.assertEqual(row, [inc(0)])


class LeastLots(unittest.TestCase):
    def test_none_of_the_islands_need_be_taken_over_ahead(self):
        self.assertEqual(least_lots(with_islands(LOST, LOST), [GROW]), [()])
        self.assertEqual(least_lots(with_islands(KEPT, TAKES), [inc(0), inc(1)]), [()])
        self.assertEqual(least_lots(with_islands(LOST), []), [()])
        self.assertEqual(least_lots(counters(3), [("press", (), "a")]), [()])

    def test_one(self):
        self.assertEqual(least_lots(with_islands(LOST, LOST), [inc(0)]), [(isle(0),)])
        self.assertEqual(least_lots(with_islands(LOST, LOST), [inc(1)]), [(isle(1),)])
        self.assertEqual(least_lots(with_islands(LOST, LOST), [inc(1), inc(0)]), [(isle(0), isle(1))])
        self.assertEqual(least_lots(with_islands(KEPT, LOST), [inc(0), inc(1)]), [(isle(1),)])

    def test_several_in_order(self):
        house = with_islands(KEPT, KEPT, size=1)
        row = [inc(0), inc(0), inc(1), inc(1)]
        self.assertEqual(least_lots(house, row), [(isle(0),), (isle(1),)])
        house = with_islands(KEPT, KEPT, KEPT, size=1)
        row = [inc(0), inc(0), inc(1), inc(1), inc(2), inc(2)]
        self.assertEqual(least_lots(house, row), [(isle(0), isle(1)), (isle(0), isle(2)), (isle(1), isle(2))])
        row = [inc(2), inc(0), inc(1), inc(2), inc(2)]
        self.assertEqual(least_lots(house, row), [(isle(2),), (isle(0), isle(1))])

    def test_no_lot(self):
        self.assertEqual(least_lots(stale(), [GROW]), [])
        house = with_islands(LOST, TAKES)
        house = house.replaced(house["isleb"].changed(looks=()))
        self.assertEqual(least_lots(house, [inc(0), GROW]), [])
        self.assertEqual(least_lots(house, [inc(0)]), [(isle(0),)])

    def test_just_four_and_more_than_four_islands(self):
        self.assertEqual(least_lots(with_islands(LOST, LOST, LOST, LOST), [inc(3)]), [(isle(3),)])
        with self.assertRaises(TooMany) as caught:
            least_lots(five_islands(), [])
        self.assertEqual(caught.exception.count, 5)

    def test_a_bad_event(self):
        with self.assertRaises(BadEvent):
            least_lots(with_islands(LOST), [("far", 1)])
        with self.assertRaises(TooMany):
            least_lots(five_islands(), [("far", 1)])


class Seeds(unittest.TestCase):
    def lots(self, house, row, places, end):
        """All lots, by trying all of them."""
        found = []
        for many in range(len(places) + 1):
            for lot in itertools.combinations(places, many):
                rest = [place for place in places if place not in lot]
                takes = [[("take", place) for place in told] for told in (lot, rest)]
                if play(house, takes[0] + row + takes[1])[-1] == end:
                    found.append(lot)
        return [lot for lot in found if not any([set(other) < set(lot) for other in found])]

    def test_held_against_all_weavings_and_all_lots(self):
        seen = {"alike": 0, "unlike": 0, "no lot": 0, "some lot": 0, "several": 0}
        for seed in range(150):
            die = dice(3000 + seed)
            house = random_house(die, False, islands=True)
            session = Session(house)
            places = session.frozen()
            if not places or len(places) > 3:
                continue
            row = []
            for _ in range(3):
                row.append(die.choice(session.events(("press", "press", "next")) or [FAR]))
                session.do(row[-1])
            end = new_end(house, row)
            unlike = [told for told in all_woven(row, places) if play(house, told)[-1] != end]
            self.assertEqual(first_unlike(house, row), unlike[0] if unlike else None)
            lots = self.lots(house, row, places, end)
            self.assertEqual(least_lots(house, row), lots)
            seen["unlike" if unlike else "alike"] += 1
            seen["some lot" if lots else "no lot"] += 1
        self.assertTrue(all([many > 3 for word, many in seen.items() if word != "several"]), seen)


if __name__ == "__main__":
    unittest.main()
