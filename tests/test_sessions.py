"""The look, agreement, the events that can come, likeness, and what puts a Session back ([32] to [34])."""

import unittest

from drawnanew.anew import Anew
from drawnanew.components import Component
from drawnanew.errors import BadEvent, NoInstance
from drawnanew.houses import House
from drawnanew.laying import Laid
from drawnanew.sessions import KINDS, Session, Trying, disagreement, play, tried
from drawnanew.shapes import button_shape, col_shape, each_shape, put_shape, row_shape, text_shape, when_shape
from tests.helpers import deed, fix, get, plus, told

ITEM = get("item")
FAR = ((1, 2, 3, 1), (2, 2, 1, 1))


def rich_house(**parts):
    """A house with items, an ask, effects, what is heard and an island."""
    item = Component(
        "item", col_shape(text_shape(get("i")), button_shape("add")), takes=(("i", 4),), hears=(("h", 4, 0),),
        cells=(("c", 4, 0),), deeds=(deed("add", "c", plus("c"), True),), effects=(("e", get("i"), ("i",)),))
    isle = Component("isle", col_shape(button_shape("tap")), cells=(("k", 4, 0),), island=("kept", True),
                     deeds=(deed("tap", "k", plus("k")),), effects=(("w", get("k"), ("k",)),))
    root = Component(
        "root", col_shape(
            each_shape(get("row"), ((1, 2), (3,), ()), ITEM, "item", ITEM), row_shape(button_shape("next"), put_shape("isle")),
            text_shape(get("a"))),
        cells=(("row", 3, 0), ("n", 4, 0)), asks=(("a", get("row"), "last"),), gives=(("h", 4, get("n")),),
        deeds=(deed("next", "row", plus("row")), deed("add", "n", plus("n"))))
    return House([root, item, isle], "root", **{"far": FAR, "room": 2, **parts})


ISLE = ((4,),)


def session_behind(*events, **parts):
    session = Session(rich_house(**parts))
    for event in events:
        session.do(event)
    return session


class Looks(unittest.TestCase):
    def test_the_parts_of_a_look(self):
        shown = ("col", (
            ("col", (("text 1", ()), ("button add", ()))), ("col", (("text 2", ()), ("button add", ()))),
            ("row", (("button next", ()), ("col", (("button tap", ()),)))), ("text 0", ())))
        armed = ((((1, 1),), "e", 1), (((1, 2),), "e", 2))
        asked = (((), "a", 0),)
        session, anew = Session(rich_house()), Anew(rich_house())
        self.assertEqual(session.look(), (shown, None, armed, asked))
        self.assertEqual(anew.look(), (shown, None, armed + ((ISLE, "w", 0),), asked))
        self.assertEqual(session.page.shown, shown)
        self.assertEqual((session.armed(), session.questions()), (list(armed), list(asked)))

    def test_the_number_of_the_button_with_the_focus(self):
        session = session_behind(("next",), ("next",), ("next",))
        self.assertEqual((session.look()[1], session.focused), (2, "3"))

    def test_no_place_where_the_asking_instance_is_gone(self):
        child = Component("leaf", col_shape(), asks=(("a", fix(0), "last"),))
        root = Component("root", col_shape(when_shape(get("c"), col_shape(), put_shape("leaf")), button_shape("turn")),
                         cells=(("c", 2, 0),), deeds=(deed("turn", "c", plus("c")),))
        for machine in (Session(House([root, child], "root")), Anew(House([root, child], "root"))):
            found = [machine.look()[3]]
            for _ in range(2):
                machine.do(("press", (), "turn"))
                found.append(machine.look()[3])
            self.assertEqual(found, [
                ((((3,),), "a", 0),), ((None, "a", 0),), ((None, "a", 0), (((3,),), "a", 0))])

    def test_the_look_of_an_anew_without_frozen_places(self):
        anew = Anew(rich_house())
        self.assertEqual(len(anew.look()[2]), 3)
        self.assertEqual(anew.look(ISLE), anew.look()[:2] + (anew.look()[2][:2],) + anew.look()[3:])
        self.assertEqual([row[0] for row in anew.look(((1, 1),), ISLE)[2]], [((1, 2),)])
        self.assertEqual(anew.look(())[2], ())
        self.assertEqual(len(anew.look(((1,),), ((4,), (1,)))[2]), 3)

    def test_places_that_begin_with_a_frozen_one(self):
        low = Component("low", col_shape(), effects=(("e", fix(1), ()),))
        mid = Component("mid", col_shape(put_shape("low")), effects=(("e", fix(2), ()),))
        root = Component("root", col_shape(put_shape("mid"), put_shape("low")))
        anew = Anew(House([root, mid, low], "root"))
        self.assertEqual(anew.look(((1,),))[2], ((((2,),), "e", 1),))
        self.assertEqual(len(anew.look(((1,), (1,)))[2]), 2)

    def test_laid_and_instances(self):
        session = session_behind()
        self.assertIsInstance(session.laid(), Laid)
        self.assertTrue(session.laid().page == session.page)
        self.assertEqual(session.instances(), [
            ((), "root"), (((1, 1),), "item"), (((1, 2),), "item"), (ISLE, "isle")])
        self.assertEqual(session.instances(), Anew(rich_house()).instances())
        session.instances().clear()
        self.assertEqual(len(session.instances()), 4)

    def test_drawn_values(self):
        session = session_behind(("press", ((1, 2),), "add"))
        self.assertEqual([session.value(((1, 2),), name) for name in "ihc"], [2, 1, 1])
        self.assertEqual([session.value((), name) for name in ("row", "n", "a")], [0, 1, 0])
        with self.assertRaises(NoInstance):
            session.value(((1, 3),), "i")


class Agreement(unittest.TestCase):
    def part(self, house, *events):
        session, anew = Session(house), Anew(house)
        for event in events:
            session.do(event)
            anew.do(event)
        return disagreement(session, anew)

    def test_they_agree(self):
        self.assertIsNone(self.part(rich_house()))
        self.assertIsNone(self.part(rich_house(), ("press", ((1, 1),), "add"), ("far",), ("next",), ("press", (), "next")))

    def test_not_at_rest(self):
        house = rich_house()
        self.assertIsNone(self.part(house, ("press", ISLE, "tap")))
        self.assertEqual(self.part(house, ("press", ISLE, "tap"), ("far",), ("take", ISLE)), None)
        session, anew = Session(house), Anew(house)
        session.do(("press", (), "next"))
        self.assertEqual(disagreement(session, anew), "page")
        session.do(("press", ISLE, "tap"))
        self.assertFalse(session.at_rest)
        self.assertIsNone(disagreement(session, anew))

    def test_page(self):
        child = Component("leaf", col_shape(text_shape(get("t"))), takes=(("t", 4),), looks=())
        root = Component("root", col_shape(put_shape("leaf", get("n")), button_shape("more")), cells=(("n", 4, 0),),
                         deeds=(deed("more", "n", plus("n")),), effects=(("e", get("n"), ()),))
        house = House([root, child], "root")
        self.assertIsNone(self.part(house))
        self.assertEqual(self.part(house, ("press", (), "more")), "page")
        self.assertIsNone(self.part(house.replaced(root.changed(effects=())), *[("press", (), "more")] * 4))

    def test_effects(self):
        root = Component("root", col_shape(button_shape("more")), cells=(("n", 4, 0),),
                         deeds=(deed("more", "n", plus("n")),), effects=(("e", get("n"), ()),))
        self.assertEqual(self.part(House([root], "root"), ("press", (), "more")), "effects")

    def test_asks(self):
        child = Component("leaf", col_shape(), takes=(("t", 4),), looks=(), asks=(("a", get("t"), "last"),))
        root = Component("root", col_shape(put_shape("leaf", get("n")), button_shape("more")), cells=(("n", 4, 0),),
                         deeds=(deed("more", "n", plus("n")),))
        self.assertEqual(self.part(House([root, child], "root"), ("press", (), "more")), "asks")

    def test_focus(self):
        child = Component("leaf", col_shape(button_shape("go")), takes=(("t", 4),))
        root = Component("root", col_shape(each_shape(get("n"), ((1, 2), (2, 1)), get("at"), "leaf", ITEM), button_shape("turn")),
                         cells=(("n", 2, 0),), deeds=(deed("turn", "n", plus("n")),))
        self.assertEqual(self.part(House([root, child], "root"), ("next",), ("press", (), "turn")), "focus")

    def test_the_first_part_that_differs(self):
        child = Component("leaf", col_shape(), takes=(("t", 4),), looks=(), asks=(("a", get("t"), "last"),))
        root = Component("root", col_shape(put_shape("leaf", get("n")), button_shape("more")), cells=(("n", 4, 0),),
                         deeds=(deed("more", "n", plus("n")),), effects=(("e", get("n"), ()),))
        self.assertEqual(self.part(House([root, child], "root"), ("press", (), "more")), "effects")

    def test_effects_of_frozen_islands_are_left_out_and_others_not(self):
        house = rich_house()
        session, anew = Session(house), Anew(house)
        self.assertNotEqual(session.look(), anew.look())
        self.assertIsNone(disagreement(session, anew))
        session.do(("take", ISLE))
        self.assertEqual(session.look(), anew.look())


class Events(unittest.TestCase):
    def test_all_kinds_in_order(self):
        presses = [("press", ((1, 1),), "add"), ("press", ((1, 2),), "add"), ("press", (), "next"), ("press", ISLE, "tap")]
        session = session_behind()
        self.assertEqual(session.events(), presses + [("next",), ("back",), ("land", 0), ("far",), ("take", ISLE)])
        session.do(("next",))
        self.assertEqual(session.events(), presses + [
            ("next",), ("back",), ("enter",), ("land", 0), ("far",), ("take", ISLE)])
        session.do(("press", (), "next"))
        session.do(("far",))
        session.do(("take", ISLE))
        self.assertEqual(session.events(), [
            ("press", ((1, 3),), "add"), ("press", (), "next"), ("press", ISLE, "tap"), ("next",), ("back",), ("enter",),
            ("land", 0), ("land", 1)])

    def test_kinds(self):
        self.assertEqual(KINDS, ("press", "next", "back", "enter", "land", "far", "take"))
        session = session_behind(("next",))
        for kind in KINDS:
            self.assertEqual(session.events((kind,)), [event for event in session.events() if event[0] == kind])
        self.assertEqual(session.events(()), [])
        self.assertEqual(session.events(("take", "far", "press")), [
            event for event in session.events() if event[0] in ("press", "far", "take")])
        self.assertEqual(session.events(kinds=("back", "far")), [("back",), ("far",)])

    def test_each_once(self):
        root = Component("root", col_shape(button_shape("go"), button_shape("up"), button_shape("go")))
        self.assertEqual(Session(House([root], "root")).events(), [
            ("press", (), "go"), ("press", (), "up"), ("next",), ("back",)])

    def test_nothing_can_come(self):
        self.assertEqual(Session(House([Component("root", col_shape())], "root")).events(), [])

    def test_islands_in_page_order(self):
        isle = Component("isle", col_shape(), island=("takes", True))
        root = Component("root", col_shape(put_shape("isle"), each_shape(fix(0), ((7, 3),), ITEM, "isle"), put_shape("isle")))
        session = Session(House([root, isle], "root"))
        self.assertEqual(session.events(), [("take", ((1,),)), ("take", ((2, 7),)), ("take", ((2, 3),)), ("take", ((3,),))])
        self.assertEqual(session.frozen(), [event[1] for event in session.events()])


class Likeness(unittest.TestCase):
    def test_equal_behind_the_same_events_and_told_apart_by_each_kind(self):
        for event in (("press", ((1, 1),), "add"), ("press", (), "next"), ("press", ISLE, "tap"), ("next",), ("back",),
                      ("land", 0), ("far",), ("take", ISLE)):
            self.assertEqual(session_behind(event).likeness(), session_behind(event).likeness())
            self.assertNotEqual(session_behind(event).likeness(), session_behind().likeness())
        self.assertEqual(session_behind(("next",), ("back",)).likeness(), session_behind(("back",)).likeness())

    def test_tickets_and_whos_have_no_say(self):
        far = FAR[:1]
        events = [("land", 0)] + [("press", (), "next"), ("land", 0)] * 3
        self.assertEqual(session_behind(*events, far=far).likeness(), session_behind(("land", 0), far=far).likeness())
        one, two = Anew(rich_house(far=far)), Anew(rich_house(far=far))
        for event in events:
            one.do(event)
        two.do(events[0])
        self.assertEqual(one.likeness(), two.likeness())

    def test_what_was_asked_by_whom_and_last(self):
        child = Component("leaf", col_shape(), asks=(("a", get("c"), "any"),), cells=(("c", 4, 0),))
        child = child.changed(shape=col_shape(button_shape("up")), deeds=(deed("up", "c", plus("c")), deed("to", "c", fix(0))))
        root = Component("root", col_shape(when_shape(get("on"), put_shape("leaf"), col_shape()), button_shape("turn")),
                         cells=(("on", 2, 1),), deeds=(deed("turn", "on", plus("on")),))
        house = House([root, child], "root", room=1)
        turns = [("press", (), "turn"), ("press", (), "turn")]
        ups = [("press", ((2,),), "up")] * 4
        for machine in (Session, Anew):
            likes = []
            for events in ([], turns, ups, turns + turns):
                made = machine(house)
                for event in events:
                    made.do(event)
                likes.append(made.likeness())
            self.assertEqual(likes[0], likes[1])
            self.assertEqual(likes[0], likes[2])
            self.assertEqual(likes[0], likes[3])
        house = house.changed(room=2)
        for machine in (Session, Anew):
            likes = []
            for events in (turns, ups, turns + turns):
                made = machine(house)
                for event in events + [("land", 0)] * (events == ups):
                    made.do(event)
                likes.append(made.likeness())
            self.assertNotEqual(likes[0], likes[1])
            self.assertEqual(likes[0], likes[2])

    def test_whether_an_open_question_is_the_last_one(self):
        root = Component("root", col_shape(button_shape("turn")), cells=(("n", 2, 0),), asks=(("a", get("n"), "same"),),
                         deeds=(deed("turn", "n", plus("n")),))
        house = House([root], "root", room=3)
        likes = []
        for number in (1, 0):
            session = Session(house)
            for event in (("press", (), "turn"), ("press", (), "turn"), ("land", 1), ("land", number)):
                session.do(event)
            self.assertEqual((session.value((), "a"), session.questions()), (1, [((), "a", 0)]))
            likes.append(session.likeness())
        self.assertNotEqual(likes[0], likes[1])

    def test_the_page_and_what_an_instance_was_drawn_with(self):
        child = Component("leaf", col_shape(text_shape(get("t"))), takes=(("t", 2),), looks=())
        root = Component("root", col_shape(put_shape("leaf", get("n")), button_shape("more"), button_shape("turn"),
                                           when_shape(get("on"), put_shape("leaf", get("n")), row_shape())),
                         cells=(("n", 2, 0), ("on", 2, 0)), deeds=(deed("more", "n", plus("n")), deed("turn", "on", plus("on"))))
        house = House([root, child], "root")
        more, turn = ("press", (), "more"), ("press", (), "turn")

        def like(*events):
            session = Session(house)
            for event in events:
                session.do(event)
            return session.likeness()

        self.assertEqual(like(more, more), like())
        self.assertEqual(like(turn, more), like(turn, more, more, more))
        self.assertNotEqual(like(turn, more), like(more, turn))
        # An Anew tells these apart by nothing.
        one, two = Anew(house), Anew(house)
        for event in (turn, more):
            one.do(event)
        for event in (more, turn):
            two.do(event)
        self.assertEqual(one.likeness(), two.likeness())

    def test_armed_values_have_a_say_and_their_order_has_none(self):
        root = Component("root", col_shape(button_shape("a"), button_shape("b")), cells=(("x", 2, 0), ("y", 2, 0)),
                         effects=(("e", get("x"), ("x",)), ("f", get("y"), ("y",))),
                         deeds=(deed("a", "x", plus("x")), deed("b", "y", plus("y"))))
        house = House([root], "root")
        rows = [(("press", (), "a"), ("press", (), "b")), (("press", (), "b"), ("press", (), "a"))]
        one, two = Session(house), Session(house)
        for first, second in zip(*rows):
            one.do(first)
            two.do(second)
        self.assertEqual(one.likeness(), two.likeness())
        weak = House([root.changed(effects=(("e", get("x"), ("y",)),))], "root")
        one, two = Session(weak), Session(weak)
        for first, second in zip(*rows):
            one.do(first)
            two.do(second)
        self.assertNotEqual(one.likeness(), two.likeness())

    def test_queued_presses(self):
        tap = ("press", ISLE, "tap")
        self.assertNotEqual(session_behind(tap).likeness(), session_behind(tap, tap).likeness())
        self.assertEqual(session_behind(tap, tap, tap).likeness(), session_behind(tap, tap, tap, tap).likeness())

    def test_the_likeness_of_a_new_machine(self):
        house = rich_house()
        for event in (("press", ((1, 1),), "add"), ("press", (), "next"), ("press", ISLE, "tap"), ("next",), ("land", 0), ("far",)):
            one, two, three = Anew(house), Anew(house), Anew(house)
            one.do(event)
            two.do(event)
            self.assertEqual(one.likeness(), two.likeness())
            self.assertNotEqual(one.likeness(), three.likeness())


EVENTS = [("next",), ("press", ((1, 2),), "add"), ("press", (), "next"), ("far",), ("press", ISLE, "tap"), ("land", 0)]


class Copies(unittest.TestCase):
    def test_a_copy_stands_as_the_other_does_and_goes_its_own_way(self):
        for made in (Session, Anew):
            machine = made(rich_house())
            for event in EVENTS:
                machine.do(event)
                twin = machine.copy()
                self.assertIsInstance(twin, made)
                before = (machine.likeness(), machine.look())
                self.assertEqual((twin.likeness(), twin.look()), before)
                for other in EVENTS + [("take", ISLE)]:
                    twin.do(other)
                self.assertEqual((machine.likeness(), machine.look()), before)

    def test_each_new_instance_of_a_copy_is_another_who(self):
        child = Component("leaf", col_shape(), asks=(("a", fix(0), "own"),))
        root = Component("root", col_shape(when_shape(get("c"), col_shape(), put_shape("leaf")), button_shape("turn")),
                         cells=(("c", 2, 0),), deeds=(deed("turn", "c", plus("c")),))
        twin = Session(House([root, child], "root", room=3)).copy()
        for _ in range(4):
            twin.do(("press", (), "turn"))
        self.assertEqual(twin.questions(), [(None, "a", 0), (None, "a", 0), (((3,),), "a", 0)])
        twin.do(("land", 0))
        self.assertEqual(twin.value(((3,),), "a"), 0)

    def test_a_copy_does_what_the_other_does(self):
        session = session_behind(*EVENTS)
        twin = session.copy()
        for event in [("press", (), "next"), ("take", ISLE), ("land", 0), ("press", (), "next"), ("back",), ("enter",)]:
            one, two = session.do(event), twin.do(event)
            self.assertEqual(told(one), told(two))
            self.assertEqual(list(one.patches), list(two.patches))
        self.assertEqual(session.likeness(), twin.likeness())


class Trials(unittest.TestCase):
    def test_entering_gives_the_session_and_leaving_puts_it_back(self):
        session = session_behind(("next",))
        before = (session.likeness(), session.look(), session.page)
        trying = session.trying()
        self.assertIsInstance(trying, Trying)
        with trying as held:
            self.assertIs(held, session)
            for event in EVENTS + [("take", ISLE)]:
                held.do(event)
            self.assertNotEqual(session.likeness(), before[0])
        self.assertEqual((session.likeness(), session.look()), before[:2])
        self.assertTrue(session.page == before[2])
        session.do(("press", (), "next"))
        self.assertEqual(session.value((), "row"), 1)

    def test_left_by_an_error(self):
        session = session_behind()
        before = session.likeness()
        with self.assertRaises(BadEvent):
            with session.trying():
                session.do(("press", (), "next"))
                session.do(("none",))
        self.assertEqual(session.likeness(), before)

    def test_one_within_another_and_again(self):
        session = session_behind()
        before = session.likeness()
        trying = Trying(session)
        for _ in range(2):
            with trying:
                session.do(("press", (), "next"))
                between = session.likeness()
                with session.trying() as held:
                    held.do(("press", (), "next"))
                self.assertEqual(session.likeness(), between)
            self.assertEqual(session.likeness(), before)
        session.do(("far",))
        moved = session.likeness()
        with trying:
            session.do(("press", (), "next"))
        self.assertEqual(session.likeness(), moved)

    def test_put_back_to_what_it_was_at_entering(self):
        session = session_behind()
        trying = session.trying()
        session.do(("press", (), "next"))
        with trying:
            session.do(("press", (), "next"))
        self.assertEqual(session.value((), "row"), 1)

    def test_tried(self):
        session = session_behind()
        before = session.likeness()
        looks = tried(session, EVENTS)
        self.assertEqual(session.likeness(), before)
        self.assertEqual(looks, play(rich_house(), EVENTS)[1:])
        self.assertEqual(tried(session, []), [])
        with self.assertRaises(BadEvent):
            tried(session, [("press", (), "next"), ("none",)])
        self.assertEqual(session.likeness(), before)
        session.do(EVENTS[0])
        self.assertEqual(tried(session, EVENTS[1:]), looks[1:])

    def test_play(self):
        session = Session(rich_house())
        looks = [session.look()]
        for event in EVENTS:
            session.do(event)
            looks.append(session.look())
        self.assertEqual(play(rich_house(), EVENTS), looks)
        self.assertEqual(play(rich_house(), []), looks[:1])
        with self.assertRaises(BadEvent):
            play(rich_house(), [("none",)])


if __name__ == "__main__":
    unittest.main()
