"""Whole runs of both machines, on houses from fixed seeds."""

import unittest

from drawnanew.anew import Anew
from drawnanew.effects import sound
from drawnanew.focusing import Focus
from drawnanew.laying import Laid
from drawnanew.patches import between, staying
from drawnanew.sessions import Session, disagreement
from tests.helpers import dice
from tests.making import random_house
from tests.slow import Slow

LISTS = ("made", "drawn", "dropped", "taken", "log", "asked")


class FullMarks(unittest.TestCase):
    def test_both_machines_agree_behind_many_rows_of_events(self):
        events = 0
        for seed in range(240):
            die = dice(seed)
            house = random_house(die, True, islands=seed % 3 == 0)
            for _ in range(2):
                session, anew = Session(house), Anew(house)
                self.assertIsNone(disagreement(session, anew))
                for _ in range(12):
                    event = die.choice(session.events())
                    session.do(event)
                    anew.do(event)
                    events += 1
                    self.assertIsNone(disagreement(session, anew), (seed, event))
                    self.assertTrue(session.at_rest)
                    self.assertEqual(session.events(("press", "next", "back", "enter", "land", "far")), [
                        told for told in session.events() if told[0] != "take"])
        self.assertGreater(events, 5000)


class AnyMarks(unittest.TestCase):
    def test_the_session_is_what_the_slow_one_is(self):
        seen = {word: 0 for word in LISTS}
        for seed in range(300):
            die = dice(1000 + seed)
            house = random_house(die, False, islands=seed % 2 == 0)
            session, slow = Session(house), Slow(house)
            self.assertEqual(session.look(), slow.look(), seed)
            for _ in range(12):
                event = die.choice(session.events())
                report, told = session.do(event), slow.do(event)
                for word in LISTS:
                    self.assertEqual(getattr(report, word), told[word], (seed, event, word))
                    seen[word] += len(told[word])
                self.assertEqual(session.look(), slow.look(), (seed, event))
                self.assertEqual(session.queued(), [row[:2] for row in slow.queue])
        self.assertTrue(all([many > 50 for many in seen.values()]), seen)

    def test_what_earlier_points_promise_over_whole_runs(self):
        for seed in range(150):
            die = dice(5000 + seed)
            house = random_house(die, False, islands=seed % 2 == 0)
            session = Session(house)
            page, laid = session.page, session.laid()
            focus = Focus(page, house.focus)
            log = [("arm",) + row for row in session.armed()]
            for _ in range(12):
                event = die.choice(session.events())
                report = session.do(event)
                patches = report.patches
                self.assertTrue(patches.page == page and patches.end == session.page)
                self.assertEqual(patches.many, between(page, session.page).many)
                stay = set(staying(page, session.page))
                self.assertFalse([patch for patch in patches if patch[0] == "drop" and patch[1] in stay])
                laid.take(patches)
                behind = session.laid()
                self.assertEqual([laid[mark] for mark in laid], [behind[mark] for mark in session.page])
                if event[0] in ("next", "back"):
                    focus.step(event[0])
                self.assertEqual(focus.turn(session.page), session.focused)
                page = session.page
                moved = [row for row in session.instances() if any([len(step) == 2 for step in row[0]])]
                if not moved and log is not None:
                    log.extend(report.log)
                    self.assertEqual(sorted(sound(log)), sorted(session.armed()))
                else:
                    # Places may change hands, so that a log by places is no longer one by paths.
                    log = None

    def test_behind_the_same_likeness_the_same_things_come(self):
        for seed in range(30):
            die = dice(9000 + seed)
            house = random_house(die, False, islands=seed % 2 == 0)
            known = {}
            for _ in range(6):
                session = Session(house)
                for _ in range(10):
                    key = session.likeness()
                    events = session.events()
                    told = (session.look(), events, session.frozen(), session.queued())
                    if key in known:
                        self.assertEqual(known[key][0], told)
                    behind = [(session.copy(), event) for event in events[:3]]
                    for twin, event in behind:
                        twin.do(event)
                    likes = [twin.likeness() for twin, _ in behind]
                    if key in known:
                        self.assertEqual(known[key][1], likes)
                    known[key] = (told, likes)
                    session.do(die.choice(events))


if __name__ == "__main__":
    unittest.main()
