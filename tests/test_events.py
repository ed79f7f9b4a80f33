"""Events in both machines, what must be drawn, effects and the focus behind each event ([20] to [23], [46])."""

import unittest

from drawnanew.anew import Anew
from drawnanew.components import Component
from drawnanew.errors import BadEvent
from drawnanew.houses import House
from drawnanew.patches import Patches
from drawnanew.sessions import Report, Session
from drawnanew.shapes import button_shape, col_shape, each_shape, put_shape, row_shape, text_shape, when_shape
from tests.helpers import deed, fix, get, labels, plus, told

ITEM = get("item")

WRONG_EVENTS = [
    (), ("",), ("turn",), ("press",), ("press", ()), ("press", (), "go", 1), ("next", 1), ("back", None), ("enter", ()),
    ("point", 1), ("point", 1, 2, 3), ("land",), ("land", 0, 0), ("far", 1), ("take",), ("take", (), ()), (None,), (1,),
    ["next"], "next", None, 5, ((),), (["press"], (), "go"), ("Next",), (True,),
]


def both(house):
    return [Session(house), Anew(house)]


def counter(*shapes, **parts):
    """A root with a cell and a button that makes it more."""
    told_parts = {"cells": (("n", 4, 0),), "deeds": (deed("more", "n", plus("n")),), **parts}
    return Component("root", col_shape(text_shape(get("n")), button_shape("more"), *shapes), **told_parts)


class Wrong(unittest.TestCase):
    def test_bad_events_change_nothing(self):
        house = House([counter(button_shape("other"), asks=(("a", get("n"), "last"),))], "root", far=((1, 2, 3, 1),) * 2)
        for machine in both(house):
            machine.do(("next",))
            machine.do(("press", (), "more"))
            before = (machine.look(), machine.likeness())
            for event in WRONG_EVENTS:
                with self.subTest(event=event), self.assertRaises(BadEvent) as caught:
                    machine.do(event)
                self.assertIs(caught.exception.event, event)
                self.assertEqual((machine.look(), machine.likeness()), before)

    def test_events_that_find_nothing_to_do(self):
        house = House([Component("root", col_shape(text_shape(fix(1))))], "root")
        for machine in both(house):
            before = machine.likeness()
            for event in (("press", (), "go"), ("press", ((1,),), "go"), ("next",), ("back",), ("enter",), ("point", 0, 0),
                          ("point", -5, 10 ** 39), ("land", 0), ("land", -1), ("far",), ("take", ()), ("take", ((1,),)),
                          ("land", True), ("take", None)):
                with self.subTest(event=event):
                    report = machine.do(event)
                    self.assertEqual(machine.likeness(), before)
                    if isinstance(machine, Session):
                        self.assertEqual((told(report), report.patches.many), ({}, 0))
                    else:
                        self.assertIsNone(report)


class Presses(unittest.TestCase):
    def test_press(self):
        for machine in both(House([counter()], "root")):
            for value in (1, 2, 3, 0):
                machine.do(("press", (), "more"))
                self.assertEqual(labels(machine.page), ["col", f"text {value}", "button more"])
                self.assertEqual(machine.value((), "n"), value)

    def test_a_press_does_not_move_the_focus(self):
        for machine in both(House([counter(button_shape("b"))], "root")):
            machine.do(("press", (), "more"))
            self.assertIsNone(machine.look()[1])
            machine.do(("back",))
            machine.do(("press", (), "more"))
            self.assertEqual(machine.look()[1], 1)

    def test_enter_presses_the_button_with_the_focus(self):
        child = Component("leaf", col_shape(button_shape("go")), cells=(("c", 4, 0),), deeds=(deed("go", "c", plus("c")),))
        for machine in both(House([counter(put_shape("leaf")), child], "root")):
            machine.do(("enter",))
            self.assertEqual((machine.value((), "n"), machine.value(((3,),), "c")), (0, 0))
            machine.do(("next",))
            machine.do(("enter",))
            self.assertEqual((machine.value((), "n"), machine.value(((3,),), "c")), (1, 0))
            machine.do(("next",))
            machine.do(("enter",))
            machine.do(("enter",))
            self.assertEqual((machine.value((), "n"), machine.value(((3,),), "c"), machine.look()[1]), (1, 2, 1))

    def test_point_presses_the_hit(self):
        shape = row_shape(text_shape(get("n")), col_shape(button_shape("more"), button_shape("most")))
        root = Component("root", shape, cells=(("n", 4, 0),), deeds=(deed("more", "n", plus("n")), deed("most", "n", fix(3))))
        for point, value in (((6, 0), 1), ((16, 0), 1), ((17, 0), 0), ((6, 1), 3), ((16, 1), 3), ((5, 0), 0), ((6, 2), 0),
                             ((0, 0), 0), ((6, -1), 0), ((-1, 0), 0), ((10 ** 30, 0), 0)):
            for machine in both(House([root], "root")):
                machine.do(("point",) + point)
                with self.subTest(point=point):
                    self.assertEqual(machine.value((), "n"), value)
                    self.assertIsNone(machine.look()[1])

    def test_point_goes_by_the_page_as_it_is_now(self):
        shape = col_shape(when_shape(get("n"), text_shape(get("n")), col_shape()), button_shape("more"))
        root = Component("root", shape, cells=(("n", 4, 0),), deeds=(deed("more", "n", plus("n")),))
        for machine in both(House([root], "root")):
            machine.do(("point", 0, 0))
            self.assertEqual(machine.value((), "n"), 1)
            machine.do(("point", 0, 0))
            self.assertEqual(machine.value((), "n"), 1)
            machine.do(("point", 0, 1))
            self.assertEqual(machine.value((), "n"), 2)


class Focus(unittest.TestCase):
    def test_next_and_back(self):
        root = counter(button_shape("b"), button_shape("c"))
        for machine in both(House([root], "root")):
            found = []
            self.assertIsNone(machine.look()[1])
            for word in ("next", "next", "next", "next", "back", "back", "back"):
                machine.do((word,))
                found.append(machine.look()[1])
            self.assertEqual(found, [0, 1, 2, 0, 2, 1, 0])
        for machine in both(House([root], "root")):
            machine.do(("back",))
            self.assertEqual(machine.look()[1], 2)

    def test_the_focused_mark(self):
        session = Session(House([counter()], "root"))
        self.assertIsNone(session.focused)
        session.do(("next",))
        self.assertEqual(session.focused, "2")

    def lost(self, rule, at):
        child = Component("leaf", col_shape(button_shape("go")))
        root = Component(
            "root", col_shape(each_shape(get("n"), ((1, 2, 3, 4), (1, 4), ()), ITEM, "leaf"), button_shape("more")),
            cells=(("n", 3, 0),), deeds=(deed("more", "n", plus("n")),))
        found = []
        for machine in both(House([root, child], "root", focus=rule)):
            for _ in range(at + 1):
                machine.do(("next",))
            rows = []
            for _ in range(2):
                machine.do(("press", (), "more"))
                rows.append(machine.look()[1])
            found.append(rows)
        self.assertEqual(found[0], found[1])
        return found[0]

    def test_it_settles_by_the_rule(self):
        self.assertEqual([self.lost("near", at) for at in range(5)], [[0, 0], [1, 0], [1, 0], [1, 0], [2, 0]])
        self.assertEqual([self.lost("first", at) for at in range(5)], [[0, 0], [0, 0], [0, 0], [1, 0], [2, 0]])
        self.assertEqual([self.lost("none", at) for at in range(5)], [
            [0, None], [None, None], [None, None], [1, None], [2, 0]])

    def test_no_buttons_are_left(self):
        shape = col_shape(when_shape(get("n"), text_shape(fix(0)), button_shape("more")))
        root = Component("root", shape, cells=(("n", 2, 0),), deeds=(deed("more", "n", fix(1)),))
        for rule in ("near", "first", "none"):
            for machine in both(House([root], "root", focus=rule)):
                machine.do(("next",))
                machine.do(("enter",))
                self.assertIsNone(machine.look()[1])


class Questions(unittest.TestCase):
    def house(self, fence="last", room=2, far=((1, 2, 3, 1), (3, 3, 2, 2))):
        root = counter(text_shape(get("a")), asks=(("a", get("n"), fence),))
        return House([root], "root", far=far, room=room)

    def test_land(self):
        for machine in both(self.house()):
            self.assertEqual(machine.look()[3], (((), "a", 0),))
            machine.do(("land", 0))
            self.assertEqual((machine.look()[3], machine.value((), "a")), ((), 1))
            self.assertEqual(labels(machine.page)[3], "text 1")
            machine.do(("land", 0))
            self.assertEqual(machine.value((), "a"), 1)

    def test_land_by_number(self):
        for machine in both(self.house()):
            machine.do(("press", (), "more"))
            self.assertEqual(machine.look()[3], (((), "a", 0), ((), "a", 1)))
            machine.do(("land", 2))
            machine.do(("land", 1))
            self.assertEqual((machine.look()[3], machine.value((), "a")), ((((), "a", 0),), 2))

    def test_the_fence_keeps_an_answer_out(self):
        for fence, value in (("any", 1), ("own", 1), ("same", 0), ("both", 0), ("last", 0)):
            session, anew = both(self.house(fence))
            for machine in (session, anew):
                machine.do(("press", (), "more"))
                machine.do(("land", 0))
                self.assertEqual(machine.look()[3], (((), "a", 1),))
            self.assertEqual((session.value((), "a"), anew.value((), "a")), (value, 0))

    def test_each_fence_at_a_child_that_is_made_again(self):
        child = Component("leaf", col_shape(text_shape(get("a"))), asks=(("a", fix(0), "any"),))
        for fence, value in (("any", 1), ("own", 0), ("same", 1), ("both", 0), ("last", 0)):
            root = counter(when_shape(get("n"), put_shape("leaf"), col_shape()), cells=(("n", 2, 1),))
            house = House([root, child.changed(asks=(("a", fix(0), fence),))], "root", far=((1, 2, 3, 1), (3, 3, 2, 2)))
            session = Session(house)
            session.do(("press", (), "more"))
            self.assertEqual(session.questions(), [(None, "a", 0)])
            session.do(("far",))
            session.do(("press", (), "more"))
            self.assertEqual(session.questions(), [(None, "a", 0), (((4,),), "a", 0)])
            session.do(("land", 0))
            self.assertEqual(session.value(((4,),), "a"), value)
            session.do(("land", 0))
            self.assertEqual(session.value(((4,),), "a"), 3)

    def test_an_answer_without_an_instance_is_gone(self):
        child = Component("leaf", col_shape(), asks=(("a", fix(0), "any"),))
        root = counter(when_shape(get("n"), put_shape("leaf"), col_shape()), cells=(("n", 2, 1),))
        for machine in both(House([root, child], "root")):
            machine.do(("press", (), "more"))
            machine.do(("land", 0))
            self.assertEqual(machine.look()[3], ())
            machine.do(("press", (), "more"))
            self.assertEqual(machine.value(((4,),), "a"), 0)

    def test_far_and_the_edition_of_an_answer(self):
        for machine in both(self.house()):
            machine.do(("far",))
            machine.do(("press", (), "more"))
            machine.do(("far",))
            machine.do(("land", 1))
            self.assertEqual(machine.value((), "a"), 3)
        for machine in both(self.house()):
            machine.do(("far",))
            machine.do(("land", 0))
            self.assertEqual(machine.value((), "a"), 1)

    def test_the_eldest_leaves(self):
        for machine in both(self.house(room=1)):
            machine.do(("press", (), "more"))
            self.assertEqual(machine.look()[3], (((), "a", 1),))
            machine.do(("land", 0))
            self.assertEqual(machine.value((), "a"), 2)

    def test_a_question_asked_by_an_answer(self):
        child = Component("leaf", col_shape(text_shape(get("b"))), takes=(("t", 4),), asks=(("b", get("t"), "last"),))
        root = Component("root", col_shape(put_shape("leaf", get("a"))), asks=(("a", fix(1), "last"),))
        for machine in both(House([root, child], "root")):
            self.assertEqual(machine.look()[3], (((), "a", 1), (((1,),), "b", 0)))
            machine.do(("land", 0))
            self.assertEqual(machine.look()[3], ((((1,),), "b", 0), (((1,),), "b", 2)))


class Effects(unittest.TestCase):
    def test_in_the_order_from_below(self):
        low = Component("leaf", col_shape(), takes=(("t", 4),), effects=(("b", get("t"), ("t",)), ("a", fix(2), ())))
        mid = Component("mid", col_shape(put_shape("leaf", fix(3)), put_shape("leaf", fix(1))), effects=(("m", fix(5), ()),))
        root = counter(put_shape("mid"), put_shape("leaf", get("n")), effects=(("r", get("n"), ("n",)),))
        armed = (
            (((3,), (1,)), "b", 3), (((3,), (1,)), "a", 2), (((3,), (2,)), "b", 1), (((3,), (2,)), "a", 2), (((3,),), "m", 5),
            (((4,),), "b", 0), (((4,),), "a", 2), ((), "r", 0),
        )
        session, anew = both(House([root, mid, low], "root"))
        for machine in (session, anew):
            self.assertEqual(machine.look()[2], armed)
        report = session.do(("press", (), "more"))
        self.assertEqual(report.log, [
            ("clean", (), "r", 0), ("clean", ((4,),), "b", 0), ("arm", ((4,),), "b", 1), ("arm", (), "r", 1)])
        anew.do(("press", (), "more"))
        self.assertEqual(session.look(), anew.look())
        self.assertEqual(session.armed(), list(session.look()[2]))

    def test_a_weak_list_keeps_the_old_value(self):
        for names, value in ((("n",), 1), ((), 0)):
            session, anew = both(House([counter(effects=(("r", get("n"), names),))], "root"))
            for machine in (session, anew):
                machine.do(("press", (), "more"))
            self.assertEqual((session.armed(), anew.look()[2]), ([((), "r", value)], (((), "r", 1),)))

    def test_the_new_machine_arms_again_on_all_names(self):
        low = Component("leaf", col_shape(button_shape("go")), takes=(("t", 4),), cells=(("c", 2, 0),),
                        effects=(("e", fix(1), ()),), deeds=(deed("go", "c", fix(1)),))
        anew = Anew(House([counter(put_shape("leaf", get("n"))), low], "root"))
        anew.do(("press", (), "more"))
        self.assertEqual(anew.look()[2], ((((3,),), "e", 1),))

    def test_effects_of_a_dropped_instance_are_cleaned(self):
        low = Component("leaf", col_shape(), takes=(("t", 4),), effects=(("e", get("t"), ("t",)),))
        root = counter(each_shape(get("n"), ((1, 2), (2,), (2, 3), ()), ITEM, "leaf", ITEM))
        session = Session(House([root, low], "root"))
        self.assertEqual(session.do(("press", (), "more")).log, [("clean", ((3, 1),), "e", 1)])
        self.assertEqual(session.do(("press", (), "more")).log, [("arm", ((3, 3),), "e", 3)])
        self.assertEqual(session.do(("press", (), "more")).log, [("clean", ((3, 3),), "e", 3), ("clean", ((3, 2),), "e", 2)])

    def test_the_log_shows_the_place_behind_the_round_or_the_last_one(self):
        low = Component("leaf", col_shape(), takes=(("t", 4),), effects=(("e", get("t"), ("t",)),))
        root = counter(each_shape(get("n"), ((1, 2), (3,), ()), get("at"), "leaf", ITEM), cells=(("n", 3, 0),))
        session = Session(House([root, low], "root"))
        report = session.do(("press", (), "more"))
        self.assertEqual(report.log, [("clean", ((3, 2),), "e", 2), ("clean", ((3, 3),), "e", 1), ("arm", ((3, 3),), "e", 3)])
        self.assertEqual(report.dropped, [((3, 2),)])
        self.assertEqual(session.do(("press", (), "more")).log, [("clean", ((3, 3),), "e", 3)])


class Rounds(unittest.TestCase):
    def chain_house(self, looks):
        low = Component("low", col_shape(text_shape(get("t"))), takes=(("t", 4),), hears=(("h", 4, 0),), looks=looks[1])
        mid = Component("mid", col_shape(put_shape("low", get("t"))), takes=(("t", 4),), looks=looks[0])
        root = counter(put_shape("mid", get("n")), gives=(("h", 4, get("n")),))
        return House([root, mid, low], "root")

    def drawn(self, *looks):
        return Session(self.chain_house(looks)).do(("press", (), "more")).drawn

    def test_what_must_be_drawn(self):
        root, mid, low = (), ((3,),), ((3,), (1,))
        self.assertEqual(self.drawn(None, None), [root, mid, low])
        self.assertEqual(self.drawn((), None), [root, low])
        self.assertEqual(self.drawn((), ("t",)), [root])
        self.assertEqual(self.drawn(None, ()), [root, mid])
        self.assertEqual(self.drawn(None, ("t",)), [root, mid, low])
        self.assertEqual(self.drawn((), ("h",)), [root, low])

    def test_a_cell_that_gets_the_same_value_draws_nothing(self):
        root = Component("root", col_shape(button_shape("set")), cells=(("c", 2, 1),), deeds=(deed("set", "c", fix(3)),))
        report = Session(House([root], "root")).do(("press", (), "set"))
        self.assertEqual(told(report), {})

    def test_a_value_that_comes_back_draws_nothing_at_the_end(self):
        session = Session(self.chain_house(((), ())))
        for _ in range(4):
            self.assertEqual(session.do(("press", (), "more")).drawn, [()])
        self.assertEqual(session.value(((3,),), "t"), 0)

    def test_looked_at_modulo_the_size(self):
        low = Component("leaf", col_shape(text_shape(get("t"))), takes=(("t", 2),))
        root = Component("root", col_shape(button_shape("two"), put_shape("leaf", get("n"))), cells=(("n", 4, 0),),
                         deeds=(deed("two", "n", plus("n", 2)),))
        self.assertEqual(Session(House([root, low], "root")).do(("press", (), "two")).drawn, [()])


class Reports(unittest.TestCase):
    def house(self):
        low = Component("low", col_shape(), takes=(("t", 4),), effects=(("e", get("t"), ("t",)),))
        mid = Component("mid", col_shape(each_shape(fix(0), ((5, 6),), ITEM, "low", get("t"))), takes=(("t", 4),))
        ask = Component("ask", col_shape(), takes=(("t", 4),), asks=(("a", get("t"), "last"),))
        root = counter(
            each_shape(get("n"), ((1, 2), (2, 3), (3,), ()), ITEM, "mid", get("n")), put_shape("ask", get("n")),
            asks=(("b", plus("n"), "last"),))
        return House([root, mid, low, ask], "root", room=3)

    def test_all_lists_in_order(self):
        session = Session(self.house())
        report = session.do(("press", (), "more"))
        self.assertIsInstance(report, Report)
        self.assertEqual(report.made, [((3, 3),), ((3, 3), (1, 5)), ((3, 3), (1, 6))])
        self.assertEqual(report.drawn, [(), ((3, 2),), ((3, 2), (1, 5)), ((3, 2), (1, 6)), ((4,),)])
        self.assertEqual(report.dropped, [((3, 1),), ((3, 1), (1, 5)), ((3, 1), (1, 6))])
        self.assertEqual(report.taken, [])
        self.assertEqual(report.asked, [((), "b", 2), (((4,),), "a", 1)])
        self.assertEqual(report.log, [
            ("clean", ((3, 2), (1, 6)), "e", 0), ("clean", ((3, 2), (1, 5)), "e", 0),
            ("clean", ((3, 1), (1, 6)), "e", 0), ("clean", ((3, 1), (1, 5)), "e", 0),
            ("arm", ((3, 2), (1, 5)), "e", 1), ("arm", ((3, 2), (1, 6)), "e", 1),
            ("arm", ((3, 3), (1, 5)), "e", 1), ("arm", ((3, 3), (1, 6)), "e", 1),
        ])

    def test_patches(self):
        session = Session(self.house())
        old = session.page
        report = session.do(("press", (), "more"))
        self.assertIsInstance(report.patches, Patches)
        self.assertTrue(report.patches.page == old and report.patches.end == session.page)
        self.assertEqual(sorted([patch[0] for patch in report.patches]), ["drop", "put", "say"])
        report = session.do(("next",))
        self.assertEqual((report.patches.many, told(report)), (0, {}))

    def test_moves_are_as_few_as_can_be(self):
        child = Component("leaf", col_shape(text_shape(get("t"))), takes=(("t", 4),))
        root = counter(each_shape(get("n"), ((1, 2, 3, 4), (4, 1, 2, 3)), ITEM, "leaf", ITEM), cells=(("n", 2, 0),))
        report = Session(House([root, child], "root")).do(("press", (), "more"))
        self.assertEqual(list(report.patches), [("move", "3.4.0/0", 2), ("say", "1", "text 1")])

    def test_parents_one_after_the_other(self):
        low = Component("low", col_shape())
        mid = Component("mid", col_shape(each_shape(get("t"), ((1, 2), ()), ITEM, "low")), takes=(("t", 4),))
        root = counter(each_shape(get("n"), ((1, 2, 3), (2, 3)), ITEM, "mid", get("n")), cells=(("n", 2, 0),))
        report = Session(House([root, mid, low], "root")).do(("press", (), "more"))
        self.assertEqual(report.dropped, [
            ((3, 1),), ((3, 1), (1, 1)), ((3, 1), (1, 2)), ((3, 2), (1, 1)), ((3, 2), (1, 2)), ((3, 3), (1, 1)), ((3, 3), (1, 2))])

    def test_dropped_places_are_those_behind_the_round_before(self):
        low = Component("low", col_shape())
        mid = Component("mid", col_shape(each_shape(get("t"), ((1,), (2,)), get("at"), "low"),
                                         when_shape(get("t"), col_shape(), put_shape("low"))), takes=(("t", 4),))
        root = counter(each_shape(get("n"), ((4,), (7,)), get("at"), "mid", get("n")), cells=(("n", 2, 0),))
        report = Session(House([root, mid, low], "root")).do(("press", (), "more"))
        self.assertEqual(report.drawn, [(), ((3, 7),)])
        self.assertEqual(report.dropped, [((3, 4), (4,))])

    def test_reports_belong_to_the_caller(self):
        session = Session(self.house())
        report = session.do(("press", (), "more"))
        for rows in (report.made, report.drawn, report.dropped, report.taken, report.log, report.asked):
            self.assertIsInstance(rows, list)
            rows.clear()
        self.assertEqual(len(session.do(("press", (), "more")).log), 6)


if __name__ == "__main__":
    unittest.main()
