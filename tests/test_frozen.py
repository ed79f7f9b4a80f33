"""The start of a Session, frozen islands and queued presses ([24])."""

import unittest

from drawnanew.anew import Anew
from drawnanew.components import Component
from drawnanew.houses import House
from drawnanew.sessions import Session, disagreement
from drawnanew.shapes import button_shape, col_shape, each_shape, put_shape, text_shape, when_shape
from tests.helpers import deed, fix, get, labels, plus, told

ITEM = get("item")

# The places of the island of `isle_house` and of the leaf in it.
ISLE = ((2,),)
LOW = ((2,), (3,))

PRESSES = [(press, check) for press in ("lost", "kept", "takes") for check in (True, False)]


def isle_house(island, elder=(), **parts):
    """A root that hands a cell down to an island, in which a leaf stands that hears another cell."""
    low = Component(
        "low", col_shape(text_shape(get("h")), text_shape(get("c")), button_shape("hit")), hears=(("h", 4, 0),),
        cells=(("c", 4, 0),), deeds=(deed("hit", "c", plus("c"), True),), effects=(("low", get("c"), ("c",)),))
    isle = Component(
        "isle", col_shape(text_shape(get("t")), button_shape("tap"), put_shape("low")), takes=(("t", 4),),
        cells=(("k", 4, 0),), deeds=(deed("tap", "k", plus("k"), True), deed("hit", "k", plus("k"), True)),
        effects=(("isle", get("t"), ("t",)),), island=island)
    root = Component(
        "root", col_shape(button_shape("more"), put_shape("isle", get("n")), text_shape(get("p")), button_shape("give")),
        cells=(("n", 4, 1), ("g", 4, 2), ("p", 4, 0)), gives=(("h", 4, get("g")),),
        deeds=(deed("more", "n", plus("n")), deed("give", "g", plus("g")), deed("tap", "p", plus("p")),
               deed("hit", "p", plus("p"))),
        effects=(("root", get("p"), ("p",)),))
    return House([root, isle.changed(**parts), low], "root", elder=elder)


class Start(unittest.TestCase):
    def test_an_island_stands_frozen_as_it_was_drawn_afar(self):
        session = Session(isle_house(("takes", True)))
        self.assertEqual(session.frozen(), [ISLE])
        self.assertEqual(session.instances(), [((), "root"), (ISLE, "isle"), (LOW, "low")])
        self.assertEqual(session.look()[0], Anew(isle_house(("takes", True))).look()[0])
        self.assertEqual(session.armed(), [((), "root", 0)])
        self.assertTrue(session.at_rest)

    def test_elder_values_are_those_of_the_page_afar_alone(self):
        for press, check in PRESSES:
            house = isle_house((press, check), elder=(("n", 3), ("g", 1)))
            session, anew = Session(house), Anew(house)
            self.assertEqual(session.value((), "n"), 1)
            self.assertEqual(anew.look()[0], Anew(isle_house((press, check))).look()[0])
            texts = [label for label in labels(session.page) if label.startswith("text")]
            if check:
                # What it is given here is another value, so that it is drawn at once and taken over.
                self.assertEqual((session.frozen(), texts), ([], ["text 1", "text 2", "text 0", "text 0"]))
                self.assertEqual(len(session.armed()), 3)
                self.assertIsNone(disagreement(session, anew))
            else:
                self.assertEqual((session.frozen(), texts), ([ISLE], ["text 3", "text 1", "text 0", "text 0"]))
                self.assertEqual(session.armed(), [((), "root", 0)])
                self.assertEqual(session.value(ISLE, "t"), 1)
                self.assertEqual(session.value(LOW, "h"), 2)
                self.assertEqual(disagreement(session, anew), "page")

    def test_a_checked_island_that_does_not_look(self):
        session = Session(isle_house(("takes", True), elder=(("n", 3),), looks=()))
        self.assertEqual(session.frozen(), [ISLE])
        self.assertEqual((session.value(ISLE, "t"), labels(session.page)[3]), (3, "text 3"))

    def test_a_checked_island_in_which_a_leaf_must_be_drawn(self):
        session = Session(isle_house(("takes", True), elder=(("g", 1),)))
        self.assertEqual(session.frozen(), [])
        self.assertEqual(session.value(LOW, "h"), 2)
        self.assertEqual(session.armed(), [(LOW, "low", 0), (ISLE, "isle", 1), ((), "root", 0)])

    def test_an_island_that_was_not_drawn_afar_is_not_frozen(self):
        isle = Component("isle", col_shape(), island=("takes", True))
        root = Component("root", col_shape(when_shape(get("on"), put_shape("isle"), col_shape())), cells=(("on", 2, 1),))
        self.assertEqual(Session(House([root, isle], "root")).frozen(), [((2,),)])
        self.assertEqual(Session(House([root, isle], "root", elder=(("on", 0),))).frozen(), [])

    def test_an_island_in_each_is_known_by_its_path(self):
        isle = Component("isle", col_shape(text_shape(get("t"))), takes=(("t", 4),), island=("takes", False))
        root = Component("root", col_shape(each_shape(get("row"), ((1, 2), (2, 3)), get("at"), "isle", ITEM)),
                         cells=(("row", 2, 1),))
        session = Session(House([root, isle], "root", elder=(("row", 0),)))
        self.assertEqual(session.frozen(), [((1, 2),), ((1, 3),)])
        self.assertEqual(labels(session.page), ["col", "col", "text 1", "col", "text 2"])
        self.assertEqual([session.value(((1, item),), "t") for item in (2, 3)], [2, 3])
        root = root.changed(shape=col_shape(each_shape(get("row"), ((1, 2), (2, 3)), ITEM, "isle", ITEM)))
        session = Session(House([root, isle], "root", elder=(("row", 0),)))
        self.assertEqual(session.frozen(), [((1, 2),)])
        self.assertEqual(labels(session.page), ["col", "col", "text 2", "col", "text 3"])

    def test_islands_within_islands_are_not_frozen_by_themselves(self):
        inner = Component("inner", col_shape(button_shape("go")), island=("takes", True))
        outer = Component("outer", col_shape(put_shape("inner")), island=("lost", True))
        root = Component("root", col_shape(put_shape("outer"), put_shape("inner")))
        session = Session(House([root, outer, inner], "root"))
        self.assertEqual(session.frozen(), [((1,),), ((2,),)])
        session.do(("take", ((1,),)))
        self.assertEqual(session.frozen(), [((2,),)])

    def test_children_that_a_taken_island_drops_at_the_start(self):
        low = Component("low", col_shape(), effects=(("e", fix(1), ()),))
        isle = Component("isle", col_shape(when_shape(get("t"), put_shape("low"), col_shape())), takes=(("t", 4),),
                         island=("takes", True))
        root = Component("root", col_shape(put_shape("isle", get("n"))), cells=(("n", 2, 0),))
        session = Session(House([root, isle, low], "root", elder=(("n", 1),)))
        self.assertEqual(session.instances(), [((), "root"), (((1,),), "isle")])
        self.assertEqual((session.frozen(), session.armed()), ([], []))

    def test_nothing_is_asked_afar(self):
        isle = Component("isle", col_shape(), island=("takes", True))
        root = Component("root", col_shape(put_shape("isle"), text_shape(get("a"))), cells=(("n", 4, 1),),
                         asks=(("a", get("n"), "last"),))
        session = Session(House([root, isle], "root", elder=(("n", 2),)))
        self.assertEqual(session.questions(), [((), "a", 1)])


class Drawn(unittest.TestCase):
    def test_a_drawing_takes_the_island_over(self):
        session = Session(isle_house(("lost", True)))
        report = session.do(("press", (), "more"))
        self.assertEqual((report.taken, report.drawn), ([ISLE], [(), ISLE]))
        self.assertEqual(report.log, [("arm", LOW, "low", 0), ("arm", ISLE, "isle", 2)])
        self.assertEqual(session.frozen(), [])

    def test_also_one_beneath_it(self):
        session = Session(isle_house(("kept", False)))
        report = session.do(("press", (), "give"))
        self.assertEqual((report.taken, report.drawn), ([ISLE], [(), LOW]))
        self.assertEqual(report.log, [("arm", LOW, "low", 0), ("arm", ISLE, "isle", 1)])

    def test_what_does_not_look_stays_frozen(self):
        session = Session(isle_house(("kept", False), looks=()))
        report = session.do(("press", (), "more"))
        self.assertEqual((report.taken, report.drawn, session.frozen()), ([], [()], [ISLE]))

    def test_a_dropped_island_is_no_longer_frozen(self):
        isle = Component("isle", col_shape(button_shape("go")), island=("kept", True))
        root = Component("root", col_shape(when_shape(get("on"), put_shape("isle"), col_shape()), button_shape("turn")),
                         cells=(("on", 2, 1),), deeds=(deed("turn", "on", plus("on")), deed("go", "on", fix(0))))
        session = Session(House([root, isle], "root"))
        session.do(("press", ((2,),), "go"))
        session.do(("press", ((2,),), "go"))
        self.assertEqual((session.queued(), session.at_rest), ([(((2,),), "go")] * 2, False))
        report = session.do(("press", (), "turn"))
        self.assertEqual(told(report), {"drawn": [()], "dropped": [((2,),)]})
        self.assertEqual((session.frozen(), session.queued(), session.at_rest), ([], [], True))
        report = session.do(("press", (), "turn"))
        self.assertEqual(told(report), {"drawn": [()], "made": [((2,),)]})
        self.assertEqual((session.frozen(), session.value((), "on")), ([], 1))

    def test_queued_presses_of_a_dropped_island_are_not_done_at_its_place(self):
        isle = Component("isle", col_shape(button_shape("go"), text_shape(get("c"))), cells=(("c", 4, 0),),
                         deeds=(deed("go", "c", plus("c")),), island=("kept", True))
        root = Component("root", col_shape(each_shape(get("row"), ((1,), (2, 1)), ("sum", ITEM, get("at")), "isle"),
                                           button_shape("next")),
                         cells=(("row", 2, 0),), deeds=(deed("next", "row", plus("row")),))
        session = Session(House([root, isle], "root"))
        session.do(("press", ((1, 1),), "go"))
        report = session.do(("press", (), "next"))
        self.assertEqual(told(report), {"drawn": [()], "dropped": [((1, 1),)], "made": [((1, 2),), ((1, 1),)]})
        self.assertEqual((session.value(((1, 1),), "c"), session.queued()), (0, []))


class Pressed(unittest.TestCase):
    def values(self, session):
        return [session.value(*told) for told in ((LOW, "c"), (ISLE, "k"), ((), "p"))]

    def test_lost(self):
        for check in (True, False):
            session = Session(isle_house(("lost", check)))
            for event in (("press", ISLE, "tap"), ("press", LOW, "hit")):
                self.assertEqual(told(session.do(event)), {})
            self.assertEqual((self.values(session), session.frozen(), session.queued()), ([0, 0, 0], [ISLE], []))

    def test_takes(self):
        session = Session(isle_house(("takes", True)))
        report = session.do(("press", LOW, "hit"))
        self.assertEqual((report.taken, report.drawn, report.made), ([ISLE], [(), ISLE, LOW], []))
        self.assertEqual((self.values(session), session.frozen()), ([1, 1, 1], []))
        report = session.do(("press", ISLE, "tap"))
        self.assertEqual((report.taken, self.values(session)), ([], [1, 2, 2]))

    def test_takes_also_where_the_press_changes_nothing(self):
        isle = Component("isle", col_shape(button_shape("go")), island=("takes", True), effects=(("e", fix(1), ()),))
        session = Session(House([Component("root", col_shape(put_shape("isle"))), isle], "root"))
        report = session.do(("press", ((1,),), "go"))
        self.assertEqual(told(report), {"taken": [((1,),)], "log": [("arm", ((1,),), "e", 1)]})
        self.assertEqual(session.frozen(), [])

    def test_kept_until_it_is_taken_over(self):
        session = Session(isle_house(("kept", True)))
        self.assertEqual(told(session.do(("press", LOW, "hit"))), {})
        self.assertEqual(told(session.do(("press", ISLE, "tap"))), {})
        self.assertEqual((session.queued(), session.at_rest, self.values(session)), (
            [(LOW, "hit"), (ISLE, "tap")], False, [0, 0, 0]))
        report = session.do(("take", ISLE))
        self.assertEqual((session.queued(), session.at_rest, self.values(session)), ([], True, [1, 2, 2]))
        self.assertEqual(report.taken, [ISLE])
        self.assertEqual(report.drawn, [(), ISLE, LOW, (), ISLE])
        self.assertEqual(report.log, [
            ("arm", LOW, "low", 0), ("arm", ISLE, "isle", 1),
            ("clean", LOW, "low", 0), ("clean", (), "root", 0), ("arm", LOW, "low", 1), ("arm", (), "root", 1),
            ("clean", (), "root", 1), ("arm", (), "root", 2),
        ])
        self.assertTrue(report.patches.end == session.page)

    def test_a_fourth_press_does_nothing(self):
        session = Session(isle_house(("kept", True)))
        for _ in range(5):
            session.do(("press", ISLE, "tap"))
        self.assertEqual(session.queued(), [(ISLE, "tap")] * 3)
        session.do(("press", (), "more"))
        self.assertEqual((self.values(session), session.queued()), ([0, 3, 3], []))

    def test_enter_and_point_are_presses_too(self):
        session = Session(isle_house(("kept", True)))
        session.do(("next",))
        session.do(("next",))
        session.do(("enter",))
        x, y, _, _ = session.laid()["2/2"]
        session.do(("point", x, y))
        self.assertEqual(session.queued(), [(ISLE, "tap")] * 2)

    def test_presses_of_two_islands(self):
        isle = Component("isle", col_shape(button_shape("go"), text_shape(get("c"))), cells=(("c", 4, 0),),
                         deeds=(deed("go", "c", plus("c"), True),), island=("kept", True))
        root = Component("root", col_shape(each_shape(fix(0), ((1, 2),), ITEM, "isle")), cells=(("sum", 4, 0),),
                         deeds=(deed("go", "sum", ("sum", ("sum", get("sum"), get("sum")), ITEM)),))
        one, two = ((1, 1),), ((1, 2),)
        session = Session(House([root, isle], "root"))
        for place in (one, two, one, two):
            session.do(("press", place, "go"))
        self.assertEqual(session.queued(), [(one, "go"), (two, "go"), (one, "go")])
        session.do(("take", two))
        self.assertEqual((session.queued(), session.value((), "sum")), ([(one, "go"), (one, "go")], 2))
        self.assertEqual((session.frozen(), session.at_rest), ([one], False))
        session.do(("take", one))
        self.assertEqual((session.value((), "sum"), session.value(one, "c"), session.at_rest), ((2 * (2 * 2 + 1) + 1) % 4, 2, True))

    def test_a_queued_press_may_reach_no_instance_any_more(self):
        isle = Component("isle", col_shape(when_shape(get("c"), col_shape(), button_shape("go")), button_shape("up")),
                         cells=(("c", 2, 0),), deeds=(deed("go", "c", fix(1), True),), island=("kept", True))
        root = Component("root", col_shape(put_shape("isle"), text_shape(get("n"))), cells=(("n", 4, 0),),
                         deeds=(deed("go", "n", plus("n")),))
        session = Session(House([root, isle], "root"))
        for _ in range(3):
            session.do(("press", ((1,),), "go"))
        session.do(("take", ((1,),)))
        self.assertEqual((session.value((), "n"), session.queued()), (1, []))

    def test_queued_presses_go_when_the_island_drops_itself(self):
        isle = Component("isle", col_shape(button_shape("go")), island=("kept", True))
        root = Component("root", col_shape(when_shape(get("n"), col_shape(), put_shape("isle")), text_shape(get("n"))),
                         cells=(("n", 4, 0),), deeds=(deed("go", "n", plus("n")),))
        session = Session(House([root, isle], "root"))
        for _ in range(3):
            session.do(("press", ((3,),), "go"))
        report = session.do(("take", ((3,),)))
        self.assertEqual((session.value((), "n"), session.queued(), report.dropped), (1, [], [((3,),)]))

    def test_a_queued_press_goes_by_its_place(self):
        isle = Component("isle", col_shape(button_shape("go"), text_shape(get("c"))), takes=(("t", 4),), cells=(("c", 4, 0),),
                         deeds=(deed("go", "c", plus("c")),), looks=(), island=("kept", False))
        root = Component("root", col_shape(each_shape(get("row"), ((1, 2), (2, 1), (1, 3)), get("at"), "isle", ITEM),
                                           button_shape("next")),
                         cells=(("row", 3, 0),), deeds=(deed("next", "row", plus("row")),))
        session = Session(House([root, isle], "root"))
        session.do(("press", ((1, 1),), "go"))
        session.do(("press", (), "next"))
        self.assertEqual((session.queued(), session.frozen()), ([(((1, 1),), "go")], [((1, 2),), ((1, 1),)]))
        # The island that the press was queued for stands at the place of item 2 now; the press finds the other one,
        # which is still frozen, and is queued for that.
        session.do(("take", ((1, 2),)))
        self.assertEqual((session.queued(), session.frozen()), ([(((1, 1),), "go")], [((1, 1),)]))
        session.do(("take", ((1, 1),)))
        self.assertEqual((session.value(((1, 1),), "c"), session.value(((1, 2),), "c"), session.at_rest), (1, 0, True))


class Taken(unittest.TestCase):
    def test_nothing_is_drawn_by_this_alone(self):
        for press, check in PRESSES:
            session = Session(isle_house((press, check)))
            before = session.page
            report = session.do(("take", ISLE))
            self.assertEqual(told(report), {"taken": [ISLE], "log": [("arm", LOW, "low", 0), ("arm", ISLE, "isle", 1)]})
            self.assertTrue(session.page == before)
            self.assertEqual(session.frozen(), [])
            self.assertEqual(told(session.do(("take", ISLE))), {})

    def test_what_is_no_frozen_island_is_not_taken(self):
        session = Session(isle_house(("takes", True)))
        for place in ((), LOW, ((9,),), None, [(2,)], ((True,),)):
            self.assertEqual(told(session.do(("take", place))), {})
        self.assertEqual(session.frozen(), [ISLE])

    def test_an_untrusted_island_keeps_what_it_drew_afar(self):
        house = isle_house(("takes", False), elder=(("n", 3),))
        session, anew = Session(house), Anew(house)
        for machine in (session, anew):
            machine.do(("take", ISLE))
        self.assertEqual((session.armed()[1], anew.look()[2][1]), ((ISLE, "isle", 3), (ISLE, "isle", 1)))
        self.assertEqual(disagreement(session, anew), "page")
        for machine in (session, anew):
            machine.do(("press", ISLE, "tap"))
        self.assertIsNone(disagreement(session, anew))

    def test_the_new_machine_has_no_islands(self):
        house = isle_house(("lost", False))
        anew = Anew(house)
        anew.do(("press", LOW, "hit"))
        self.assertEqual((anew.value(LOW, "c"), anew.value((), "p")), (1, 1))
        self.assertEqual(len(anew.look()[2]), 3)


if __name__ == "__main__":
    unittest.main()
