import unittest

from drawnanew.anew import Anew
from drawnanew.components import Component
from drawnanew.desk import Desk
from drawnanew.errors import BadLine
from drawnanew.houses import House
from drawnanew.sessions import Session, disagreement
from drawnanew.shapes import button_shape, col_shape, each_shape, put_shape, row_shape, text_shape
from drawnanew.writing import write_place
from tests.helpers import deed, dice, fix, get, plus
from tests.houses import AT, ITEM, growing, late, lost_focus, old_effect, stale, unasked, with_islands
from tests.making import random_house


def rich():
    """A house whose events fill all lists of a report but `taken`."""
    kid = Component(
        "kid", row_shape(text_shape(get("it")), button_shape("go")), takes=(("it", 4),), cells=(("c", 2, 0),),
        asks=(("reply", get("it"), "last"),), effects=(("title", get("c"), ("c",)),), deeds=(deed("go", "c", plus("c")),),
    )
    shape = col_shape(button_shape("turn"), each_shape(get("way"), ((1, 2), (3,)), ITEM, "kid", ITEM))
    root = Component(
        "root", shape, cells=(("way", 2, 0),), effects=(("way", get("way"), ("way",)),),
        deeds=(deed("turn", "way", plus("way")),))
    return House([root, kid], "root", far=((3, 2, 1, 1), (1, 1, 1, 2)), room=2)


class Events(unittest.TestCase):
    def test_the_rows_of_the_report_in_their_order(self):
        desk = Desk(rich())
        self.assertEqual(desk.say("press . turn"), [
            "made 2:3", "drawn .", "dropped 2:1", "dropped 2:2", "clean . way 0", "clean 2:2 title 0", "clean 2:1 title 0",
            "arm 2:3 title 0", "arm . way 1", "asked 2:3 reply 3", "same"])
        self.assertEqual(desk.say("press . turn"), [
            "made 2:1", "made 2:2", "drawn .", "dropped 2:3", "clean . way 1", "clean 2:3 title 0", "arm 2:1 title 0",
            "arm 2:2 title 0", "arm . way 0", "asked 2:1 reply 1", "asked 2:2 reply 2", "same"])

    def test_the_log_stands_row_by_row(self):
        desk = Desk(rich())
        self.assertEqual(desk.say("press 2:2 go"), ["drawn 2:2", "clean 2:2 title 0", "arm 2:2 title 1", "same"])

    def test_taken(self):
        desk = Desk(with_islands(("takes", True), ("takes", True)))
        self.assertEqual(desk.say("take 3"), ["taken 3", "same"])
        self.assertEqual(desk.say("take 3"), ["same"])
        self.assertEqual(desk.say("press 2 inc"), ["drawn 2", "taken 2", "same"])
        self.assertEqual(desk.say("take ."), ["same"])

    def test_focus_and_points(self):
        desk = Desk(rich())
        self.assertEqual(desk.say("back"), ["same"])
        self.assertEqual(desk.say("enter"), ["drawn 2:2", "clean 2:2 title 0", "arm 2:2 title 1", "same"])
        self.assertEqual(desk.say("next"), ["same"])
        self.assertEqual(desk.say("enter")[0], "made 2:3")
        self.assertEqual(desk.say("point 0 0")[0], "made 2:1")
        self.assertEqual(desk.say("point 6 1"), ["drawn 2:1", "clean 2:1 title 0", "arm 2:1 title 1", "same"])
        self.assertEqual(desk.say("point 999 999"), ["same"])
        self.assertEqual(desk.say("point 0 1"), ["same"])

    def test_answers(self):
        desk = Desk(rich())
        self.assertEqual(desk.say("open"), ["2:1 reply 1", "2:2 reply 2"])
        self.assertEqual(desk.say("far"), ["same"])
        self.assertEqual(desk.say("land 1"), ["drawn 2:2", "same"])
        self.assertEqual(desk.say("value 2:2 reply"), ["1"])
        self.assertEqual(desk.say("land 1"), ["same"])
        self.assertEqual(desk.say("land 0"), ["drawn 2:1", "same"])
        self.assertEqual(desk.say("value 2:1 reply"), ["2"])
        self.assertEqual(desk.say("land 999"), ["same"])
        self.assertEqual(desk.say("open"), [])

    def test_events_that_find_nothing_to_do(self):
        desk = Desk(rich())
        for line in ["press . none", "press 2:9 go", "press 7/7/7 go", "enter", "land 9", "take 2:1", "point 500 0"]:
            self.assertEqual(desk.say(line), ["same"])

    def test_waits(self):
        desk = Desk(with_islands(("kept", True)))
        self.assertEqual(desk.say("press 2 inc"), ["waits"])
        self.assertEqual(desk.say("press 2 inc"), ["waits"])
        self.assertEqual(desk.say("next"), ["waits"])
        self.assertEqual(desk.say("take 2"), ["drawn 2", "drawn 2", "taken 2", "same"])

    def test_parts(self):
        self.assertEqual(Desk(stale()).say("press . grow"), ["drawn .", "parts page"])
        self.assertEqual(Desk(old_effect()).say("press . grow"), ["drawn .", "parts effects"])
        self.assertEqual(Desk(unasked()).say("press . grow"), ["drawn .", "parts asks"])
        desk = Desk(lost_focus())
        self.assertEqual(desk.say("back"), ["same"])
        self.assertEqual(desk.say("press . swap"), ["drawn .", "parts focus"])
        desk = Desk(stale())
        self.assertEqual([desk.say("press . grow")[-1] for _ in range(3)], ["parts page", "parts page", "same"])

    def test_a_late_answer(self):
        desk = Desk(late("any"))
        self.assertEqual(desk.say("press . grow"), ["drawn .", "drawn 2", "asked 2 reply 1", "same"])
        self.assertEqual(desk.say("land 0"), ["drawn 2", "parts page"])
        self.assertEqual(desk.say("land 0"), ["drawn 2", "same"])


class Telling(unittest.TestCase):
    def test_page(self):
        desk = Desk(rich())
        lines = [
            "col", "  button turn", "  row", "    text 1", "    button go", "  row", "    text 2", "    button go"]
        self.assertEqual(desk.say("page"), lines)
        desk.say("back")
        self.assertEqual(desk.say("page"), lines[:-1] + ["    button go *"])
        desk.say("back")
        self.assertEqual(desk.say("page"), lines[:4] + ["    button go *"] + lines[5:])
        desk.say("press . turn")
        # The button is gone; the nearest one that is left has the focus.
        self.assertEqual(desk.say("page"), ["col", "  button turn *", "  row", "    text 3", "    button go"])

    def test_page_is_that_of_the_session(self):
        desk = Desk(stale())
        desk.say("press . grow")
        self.assertEqual(desk.say("page"), ["col", "  button grow", "  col", "    text 0"])
        self.assertEqual(desk.say("value 2 size"), ["0"])
        self.assertEqual(desk.say("value . size"), ["1"])

    def test_armed(self):
        desk = Desk(rich())
        self.assertEqual(desk.say("armed"), ["2:1 title 0", "2:2 title 0", ". way 0"])
        desk.say("press 2:1 go")
        self.assertEqual(desk.say("armed"), ["2:1 title 1", "2:2 title 0", ". way 0"])
        self.assertEqual(Desk(stale()).say("armed"), [])
        desk = Desk(old_effect())
        desk.say("press . grow")
        self.assertEqual(desk.say("armed"), [". title 0"])

    def test_open(self):
        desk = Desk(rich())
        self.assertEqual(desk.say("open"), ["2:1 reply 1", "2:2 reply 2"])
        desk.say("press . turn")
        self.assertEqual(desk.say("open"), ["- reply 2", "2:3 reply 3"])
        self.assertEqual(Desk(stale()).say("open"), [])

    def test_value(self):
        desk = Desk(with_islands(("lost", True), elder=()))
        desk.say("press . grow")
        self.assertEqual(desk.say("value . size"), ["1"])
        self.assertEqual(desk.say("value 2 size"), ["1"])
        self.assertEqual(desk.say("value 2 many"), ["0"])
        desk.say("press 2 inc")
        self.assertEqual(desk.say("value 2 many"), ["1"])

    def test_what_tells_changes_nothing(self):
        desk = Desk(rich())
        for line in ["page", "armed", "open", "value . way"] * 2:
            self.assertIsInstance(desk.say(line), list)
        self.assertEqual(desk.say("next"), ["same"])

    def test_places_within_places(self):
        leaf = Component("leaf", col_shape(button_shape("go")), cells=(("c", 3, 2),), effects=(("e", get("c"), ()),))
        mid = Component("mid", col_shape(put_shape("leaf"), put_shape("leaf")))
        root = Component("root", col_shape(each_shape(fix(0), ((8, 0),), AT, "mid")))
        desk = Desk(House([root, mid, leaf], "root"))
        self.assertEqual(desk.say("armed"), ["1:8/1 e 2", "1:8/2 e 2", "1:0/1 e 2", "1:0/2 e 2"])
        self.assertEqual(desk.say("value 1:0/2 c"), ["2"])
        self.assertEqual(desk.say("press 1:0/2 go"), ["same"])

    def test_the_answer_belongs_to_the_caller(self):
        desk = Desk(rich())
        desk.say("page").clear()
        desk.say("armed").clear()
        self.assertEqual((len(desk.say("page")), len(desk.say("armed"))), (8, 3))


class Refused(unittest.TestCase):
    REFUSED = [
        ("", 1), (" ", 1), ("#", 1), ("# next", 1), ("Next", 1), ("jump", 1), (" next", 1), ("look", 1), ("asked", 1),
        ("waits", 1), ("presss . go", 1),
        ("press", 2), ("press ", 2), ("press  . go", 2), ("press x go", 2), ("press 1: go", 2), ("press 01 go", 2),
        ("press 100 go", 2), ("press ./1 go", 2), ("press .", 3), ("press . ", 3), ("press . Go", 3), ("press . ninesigns", 3),
        ("press . 1", 3), ("press . go ", 4), ("press . go go", 4), ("press 7 go .", 4),
        ("next ", 2), ("next 1", 2), ("back 1", 2), ("enter go", 2), ("far 1", 2), ("far ", 2), ("page 1", 2), ("armed .", 2),
        ("open .", 2), ("page ", 2),
        ("point", 2), ("point x 1", 2), ("point -1 1", 2), ("point 01 1", 2), ("point 1000 1", 2), ("point 00 1", 2),
        ("point +1 1", 2), ("point 1.0 1", 2), ("point \u00b2 1", 2), ("point 1", 3), ("point 1 ", 3), ("point 1 y", 3),
        ("point 1 1000", 3), ("point 1 -1", 3), ("point 1 1 1", 4), ("point 1  1", 3),
        ("land", 2), ("land x", 2), ("land 00", 2), ("land 1000", 2), ("land -1", 2), ("land 0 0", 3), ("land 0 ", 3),
        ("take", 2), ("take x", 2), ("take 1/", 2), ("take ..", 2), ("take . .", 3), ("take 2:1 ", 3),
        ("value", 2), ("value x", 2), ("value x way", 2), ("value 9 way", 2), ("value 2:9 it", 2), ("value 2:9", 2),
        ("value 2 it", 2), ("value 9", 2), ("value .", 3), ("value . ", 3), ("value . none", 3), ("value . it", 3),
        ("value . item", 3), ("value 2:1 way", 3), ("value . Way", 3), ("value . 1", 3), ("value . way way", 4),
        ("value . way ", 4), ("value . none none", 3),
    ]

    def test_the_first_word_that_cannot_stand_there(self):
        desk = Desk(rich())
        for line, word in self.REFUSED:
            with self.subTest(line), self.assertRaises(BadLine) as caught:
                desk.say(line)
            self.assertEqual((caught.exception.line, caught.exception.word), (0, word))

    def test_nothing_has_changed_then(self):
        desk, other = Desk(rich()), Desk(rich())
        for line, _ in self.REFUSED:
            with self.assertRaises(BadLine):
                desk.say(line)
        for line in ["page", "armed", "open", "next", "enter", "press . turn", "land 0", "page"]:
            self.assertEqual(desk.say(line), other.say(line))

    def test_places_and_names_that_are_not_there_are_refused_only_for_a_value(self):
        desk = Desk(rich())
        self.assertEqual(desk.say("press 9 nothing"), ["same"])
        self.assertEqual(desk.say("take 9/9"), ["same"])
        with self.assertRaises(BadLine):
            desk.say("value 9 way")

    def test_a_place_that_is_gone(self):
        desk = Desk(rich())
        self.assertEqual(desk.say("value 2:1 it"), ["1"])
        desk.say("press . turn")
        with self.assertRaises(BadLine) as caught:
            desk.say("value 2:1 it")
        self.assertEqual(caught.exception.word, 2)
        self.assertEqual(desk.say("value 2:3 it"), ["3"])


class Listing(unittest.TestCase):
    def test_each_line_with_its_answer(self):
        lines = ["next", "page", "", "press . go on", "point 1", "press . grow", "value . size", "jump"]
        self.assertEqual(list(Desk(stale()).listing(lines)), [
            "> next", "same", "> page", "col", "  button grow *", "  col", "    text 0", "> ", "? 1", "> press . go on", "? 4",
            "> point 1", "? 3", "> press . grow", "drawn .", "parts page", "> value . size", "1", "> jump", "? 1"])
        self.assertEqual(lines[-1], "jump")

    def test_no_line(self):
        self.assertEqual(list(Desk(stale()).listing([])), [])

    def test_an_answer_without_lines(self):
        self.assertEqual(list(Desk(stale()).listing(["armed", "open"])), ["> armed", "> open"])

    def test_it_does_nothing_before_it_is_iterated(self):
        desk = Desk(stale())
        rows = desk.listing(["press . grow", "press . grow"])
        self.assertEqual(desk.say("value . size"), ["0"])
        self.assertEqual(next(rows), "> press . grow")
        self.assertEqual(list(rows), ["drawn .", "parts page", "> press . grow", "drawn .", "parts page"])
        self.assertEqual(desk.say("value . size"), ["2"])
        desk.listing(None)

    def test_a_desk_goes_on_behind_a_listing(self):
        desk = Desk(growing_house())
        self.assertEqual(list(desk.listing(["press . grow"]))[-1], "same")
        self.assertEqual(list(desk.listing(["value . size"])), ["> value . size", "1"])


def growing_house():
    return House([growing()], "root")


class Seeds(unittest.TestCase):
    def line(self, event):
        return " ".join([write_place(part) if isinstance(part, tuple) else str(part) for part in event])

    def test_held_against_a_session_and_an_anew(self):
        seen = {}
        for seed in range(120):
            die = dice(500 + seed)
            house = random_house(die, False, islands=seed % 2 == 0)
            desk, session, anew = Desk(house), Session(house), Anew(house)
            for _ in range(10):
                event = die.choice(session.events() + [("point", die.randrange(20), die.randrange(8)), ("far",), ("land", 0)])
                report = session.do(event)
                anew.do(event)
                rows = [f"{word} {write_place(place)}" for word in ("made", "drawn", "dropped", "taken")
                        for place in getattr(report, word)]
                rows += [f"{word} {write_place(place)} {name} {value}" for word, place, name, value in report.log]
                rows += [f"asked {write_place(place)} {name} {value}" for place, name, value in report.asked]
                part = disagreement(session, anew)
                rows.append("waits" if not session.at_rest else f"parts {part}" if part else "same")
                self.assertEqual(desk.say(self.line(event)), rows)
                for row in rows:
                    seen[row.split(" ")[0]] = seen.get(row.split(" ")[0], 0) + 1
                told = [row.strip(" *") for row in desk.say("page")]
                self.assertEqual(told, [session.page[mark][1] for mark in session.page])
                for place, name in session.instances():
                    for told in house[name].names:
                        self.assertEqual(desk.say(f"value {write_place(place)} {told}"), [str(session.value(place, told))])
        words = {"made", "drawn", "dropped", "taken", "clean", "arm", "asked", "same", "waits", "parts"}
        self.assertEqual({word for word, many in seen.items() if many > 3}, words)


if __name__ == "__main__":
    unittest.main()
