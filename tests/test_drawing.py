"""Places, paths and marks, the values that instances are given, drawing, and presses that go up ([16] to [19])."""

import unittest

from drawnanew.anew import Anew
from drawnanew.components import Component
from drawnanew.errors import NoInstance, NoName
from drawnanew.houses import House
from drawnanew.sessions import Session
from drawnanew.shapes import button_shape, col_shape, each_shape, put_shape, row_shape, text_shape, when_shape
from tests.helpers import deed, fix, get, labels, plus

ITEM, AT = get("item"), get("at")


def both(house):
    return [Session(house), Anew(house)]


def leaf(name="leaf", *shapes, **parts):
    return Component(name, col_shape(*shapes), **parts)


class Marks(unittest.TestCase):
    def test_nodes_of_the_root(self):
        root = Component("root", row_shape(
            text_shape(fix(7)), when_shape(fix(0), text_shape(fix(1)), col_shape(button_shape("go"))), row_shape()))
        for machine in both(House([root], "root")):
            self.assertEqual(machine.page.top, (
                "0", "row", (("1", "text 7", ()), ("4", "col", (("5", "button go", ()),)), ("6", "row", ()))))

    def test_put_and_each(self):
        root = leaf("root", text_shape(fix(3)), put_shape("mid"), put_shape("leaf", fix(9)))
        mid = Component("mid", row_shape(each_shape(fix(0), ((4, 2),), ITEM, "leaf", ITEM), text_shape(fix(0))))
        low = leaf("leaf", text_shape(get("t")), takes=(("t", 4),))
        for machine in both(House([root, mid, low], "root")):
            self.assertEqual(list(machine.page), [
                "0", "1", "2/0", "2/1.4.0/0", "2/1.4.0/1", "2/1.2.0/0", "2/1.2.0/1", "2/2", "3/0", "3/1"])
            self.assertEqual(labels(machine.page), [
                "col", "text 3", "row", "col", "text 0", "col", "text 2", "text 0", "col", "text 1"])
            self.assertEqual(machine.instances(), [
                ((), "root"), (((2,),), "mid"), (((2,), (1, 4)), "leaf"), (((2,), (1, 2)), "leaf"), (((3,),), "leaf")])

    def test_paths_have_the_ident_by_the_key_and_places_the_item(self):
        root = leaf("root", each_shape(fix(0), ((5, 8, 6),), ("same", ITEM, fix(8)), "leaf"))
        house = House([root, leaf()], "root")
        session, anew = both(house)
        self.assertEqual(list(session.page), ["0", "1.0.0/0", "1.1.0/0", "1.0.1/0"])
        self.assertEqual(list(anew.page), ["0", "1.5.0/0", "1.8.0/0", "1.6.0/0"])
        for machine in (session, anew):
            self.assertEqual([place for place, _ in machine.instances()], [(), ((1, 5),), ((1, 8),), ((1, 6),)])

    def test_the_new_machine_knows_items_by_themselves_everywhere(self):
        inner = each_shape(fix(0), ((5, 8),), AT, "leaf")
        root = leaf("root", when_shape(fix(1), row_shape(inner), inner), when_shape(fix(0), inner, inner))
        session, anew = both(House([root, leaf()], "root"))
        self.assertEqual(list(session.page), ["0", "2", "3.0.0/0", "3.1.0/0", "7.0.0/0", "7.1.0/0"])
        self.assertEqual(list(anew.page), ["0", "2", "3.5.0/0", "3.8.0/0", "7.5.0/0", "7.8.0/0"])

    def test_an_empty_row_of_items(self):
        root = leaf("root", each_shape(fix(1), ((5,), ()), ITEM, "leaf"))
        for machine in both(House([root, leaf()], "root")):
            self.assertEqual(machine.page.top, ("0", "col", ()))

    def test_the_row_is_told_modulo_the_number_of_rows(self):
        for value, items in ((0, [1]), (1, [2, 3]), (2, []), (3, [1]), (7, [2, 3]), (9, [1])):
            root = leaf("root", each_shape(fix(value), ((1,), (2, 3), ()), ITEM, "leaf"))
            for machine in both(House([root, leaf()], "root")):
                self.assertEqual([place for place, _ in machine.instances()][1:], [((1, item),) for item in items])

    def test_both_parts_of_when(self):
        root = leaf("root", when_shape(get("c"), put_shape("leaf"), row_shape(put_shape("leaf"))), button_shape("turn"),
                    cells=(("c", 2, 0),), deeds=(deed("turn", "c", plus("c")),))
        for machine in both(House([root, leaf()], "root")):
            self.assertEqual(list(machine.page), ["0", "3", "4/0", "5"])
            machine.do(("press", (), "turn"))
            self.assertEqual(list(machine.page), ["0", "2/0", "5"])


class Given(unittest.TestCase):
    def test_taken_modulo_the_size(self):
        root = leaf("root", put_shape("leaf", fix(9), fix(9)))
        low = leaf("leaf", text_shape(get("t")), text_shape(get("u")), takes=(("t", 4), ("u", 2)))
        for machine in both(House([root, low], "root")):
            self.assertEqual(labels(machine.page)[2:], ["text 1", "text 1"])
            self.assertEqual((machine.value(((1,),), "t"), machine.value(((1,),), "u")), (1, 1))

    def test_forms_of_each_read_item_and_place(self):
        root = leaf("root", each_shape(fix(0), ((9, 3, 6),), ITEM, "leaf", ITEM, AT, ("sum", ITEM, get("c"))),
                    cells=(("c", 4, 3),))
        low = leaf("leaf", takes=(("i", 4), ("a", 4), ("s", 4)))
        for machine in both(House([root, low], "root")):
            rows = [[machine.value(((1, item),), name) for name in "ias"] for item in (9, 3, 6)]
            self.assertEqual(rows, [[1, 0, 2], [3, 1, 2], [2, 2, 1]])

    def test_heard_from_the_nearest_above(self):
        hears = (("h", 4, 3),)
        low = leaf("leaf", text_shape(get("h")), hears=hears)
        mid = leaf("mid", text_shape(get("h")), put_shape("leaf"), hears=hears, gives=(("h", 4, plus("h")),))
        root = leaf("root", text_shape(get("h")), put_shape("mid"), put_shape("leaf"), put_shape("wrap"),
                    hears=hears, gives=(("h", 4, fix(5)),))
        wrap = leaf("wrap", put_shape("leaf"), gives=(("i", 4, fix(2)),))
        for machine in both(House([root, mid, wrap, low], "root")):
            values = [machine.value(place, "h") for place in ((), ((2,),), ((2,), (2,)), ((3,),), ((4,), (1,)))]
            self.assertEqual(values, [3, 1, 2, 1, 1])

    def test_heard_modulo_the_size_told_by_the_hearer(self):
        root = leaf("root", put_shape("leaf"), gives=(("h", 4, fix(3)),))
        for size, value in ((1, 0), (2, 1), (3, 0), (4, 3)):
            low = leaf("leaf", hears=(("h", size, 0),))
            for machine in both(House([root, low], "root")):
                self.assertEqual(machine.value(((1,),), "h"), value)

    def test_given_modulo_the_size_told_by_the_giver(self):
        root = leaf("root", put_shape("leaf"), gives=(("h", 2, fix(3)),))
        for machine in both(House([root, leaf("leaf", hears=(("h", 4, 2),))], "root")):
            self.assertEqual(machine.value(((1,),), "h"), 1)

    def test_defaults_and_starts(self):
        root = leaf("root", put_shape("leaf"), hears=(("h", 3, 2),), cells=(("c", 4, 3),))
        low = leaf("leaf", hears=(("i", 2, 1),), asks=(("a", fix(1), "last"),))
        for machine in both(House([root, low], "root")):
            self.assertEqual((machine.value((), "h"), machine.value((), "c")), (2, 3))
            self.assertEqual((machine.value(((1,),), "i"), machine.value(((1,),), "a")), (1, 0))

    def test_wrong_places_and_names(self):
        root = leaf("root", put_shape("leaf"), cells=(("c", 4, 3),), gives=(("g", 2, fix(1)),))
        low = leaf("leaf", cells=(("d", 2, 0),))
        for machine in both(House([root, low], "root")):
            for place in (((2,),), ((1,), (1,)), ((9,), (1,)), ((1, 0),), None, [], [(1,)], "", ((True,),), (1,), ([1],), ((1, 1, 1),)):
                with self.subTest(place=place), self.assertRaises(NoInstance) as caught:
                    machine.value(place, "none")
                self.assertEqual(caught.exception.place, place)
            for place, name in (((), "d"), (((1,),), "c"), ((), "g"), ((), "item"), ((), ""), ((), None), ((), []), ((), 0)):
                with self.subTest(name=name), self.assertRaises(NoName) as caught:
                    machine.value(place, name)
                self.assertEqual(caught.exception.name, name)


def items_house(key, looks=None):
    """A root that shows the row of the menu that its cell tells; each child counts its presses."""
    child = Component(
        "leaf", col_shape(text_shape(get("n")), text_shape(get("i")), text_shape(get("a")), button_shape("add")),
        takes=(("i", 4), ("a", 4)), cells=(("n", 4, 0),), deeds=(deed("add", "n", plus("n")),), looks=looks)
    root = Component(
        "root", col_shape(each_shape(get("row"), ((1, 2, 3), (3, 1), (2,), ()), key, "leaf", ITEM, AT), button_shape("next")),
        cells=(("row", 4, 0),), deeds=(deed("next", "row", plus("row")),))
    return House([root, child], "root")


class Children(unittest.TestCase):
    def shown(self, machine):
        rows = []
        for place, _ in machine.instances()[1:]:
            rows.append((place[0][1],) + tuple([machine.value(place, name) for name in "nia"]))
        return rows

    def test_children_stay_with_their_state(self):
        for machine in both(items_house(ITEM)):
            for item, times in ((1, 1), (2, 2), (3, 3)):
                for _ in range(times):
                    machine.do(("press", ((1, item),), "add"))
            self.assertEqual(self.shown(machine), [(1, 1, 1, 0), (2, 2, 2, 1), (3, 3, 3, 2)])
            machine.do(("press", (), "next"))
            self.assertEqual(self.shown(machine), [(3, 3, 3, 0), (1, 1, 1, 1)])
            machine.do(("press", (), "next"))
            self.assertEqual(self.shown(machine), [(2, 0, 2, 0)])
            machine.do(("press", (), "next"))
            self.assertEqual(self.shown(machine), [])
            machine.do(("press", (), "next"))
            self.assertEqual(self.shown(machine), [(1, 0, 1, 0), (2, 0, 2, 1), (3, 0, 3, 2)])

    def test_a_weak_key_gives_the_state_to_another_item(self):
        session = Session(items_house(AT))
        for item, times in ((1, 1), (2, 2), (3, 3)):
            for _ in range(times):
                session.do(("press", ((1, item),), "add"))
        session.do(("press", (), "next"))
        self.assertEqual(self.shown(session), [(3, 1, 3, 0), (1, 2, 1, 1)])
        session.do(("press", ((1, 3),), "add"))
        self.assertEqual(self.shown(session), [(3, 2, 3, 0), (1, 2, 1, 1)])

    def test_a_child_that_looks_at_nothing_gets_its_place_and_keeps_what_it_drew(self):
        session = Session(items_house(AT, looks=()))
        session.do(("press", (), "next"))
        self.assertEqual(self.shown(session), [(3, 0, 1, 0), (1, 0, 2, 1)])
        self.assertEqual(labels(session.page)[1:5], ["col", "text 0", "text 1", "text 0"])
        session.do(("press", ((1, 3),), "add"))
        self.assertEqual(self.shown(session), [(3, 1, 3, 0), (1, 0, 2, 1)])

    def test_the_place_of_a_grandchild_follows_its_parent(self):
        low = leaf("leaf", button_shape("hit"), cells=(("c", 2, 0),), deeds=(deed("hit", "c", fix(1)),))
        mid = leaf("mid", put_shape("leaf"), takes=(("i", 4),), looks=())
        root = leaf("root", each_shape(get("row"), ((1,), (2,)), fix(0), "mid", ITEM), button_shape("next"),
                    cells=(("row", 2, 0),), deeds=(deed("next", "row", plus("row")),))
        session = Session(House([root, mid, low], "root"))
        session.do(("press", ((1, 1), (1,)), "hit"))
        session.do(("press", (), "next"))
        self.assertEqual(session.instances()[1:], [(((1, 2),), "mid"), (((1, 2), (1,)), "leaf")])
        self.assertEqual(session.value(((1, 2), (1,)), "c"), 1)

    def test_what_is_beneath_a_dropped_child_is_new_when_it_comes_back(self):
        low = leaf("leaf", button_shape("hit"), cells=(("c", 2, 0),), deeds=(deed("hit", "c", fix(1)),))
        mid = leaf("mid", put_shape("leaf"))
        root = leaf("root", when_shape(get("on"), put_shape("mid"), row_shape()), button_shape("turn"),
                    cells=(("on", 2, 1),), deeds=(deed("turn", "on", plus("on")),))
        for machine in both(House([root, mid, low], "root")):
            machine.do(("press", ((2,), (1,)), "hit"))
            self.assertEqual(machine.value(((2,), (1,)), "c"), 1)
            machine.do(("press", (), "turn"))
            self.assertEqual(machine.instances(), [((), "root")])
            machine.do(("press", (), "turn"))
            self.assertEqual(machine.value(((2,), (1,)), "c"), 0)


class Presses(unittest.TestCase):
    def up_house(self, low_deeds=(), mid_deeds=(), root_deeds=()):
        low = leaf("leaf", button_shape("go"), cells=(("c", 4, 0),), deeds=low_deeds)
        mid = leaf("mid", each_shape(fix(0), ((3, 2),), ITEM, "leaf"), cells=(("c", 4, 0),), deeds=mid_deeds)
        root = leaf("root", put_shape("mid"), each_shape(fix(0), ((7,),), ITEM, "mid"), cells=(("c", 4, 0),), deeds=root_deeds)
        return House([root, mid, low], "root")

    def values(self, machine):
        return {place: machine.value(place, "c") for place, _ in machine.instances() if machine.value(place, "c")}

    def test_a_press_goes_up_with_the_item(self):
        low, up, high = ((2, 7),), ((2, 7), (1, 3)), ()
        for on in (True, False):
            house = self.up_house(
                (deed("go", "c", plus("item", 1), True),), (deed("go", "c", ITEM, on),), (deed("go", "c", ITEM),))
            for machine in both(house):
                machine.do(("press", up, "go"))
                self.assertEqual(self.values(machine), {up: 1, low: 3, high: 3} if on else {up: 1, low: 3})

    def test_item_is_0_for_a_put_and_at_the_first(self):
        house = self.up_house(
            (deed("go", "c", plus("item", 1), True),), (deed("go", "c", plus("item"), True),), (deed("go", "c", plus("item")),))
        for machine in both(house):
            machine.do(("press", ((1,), (1, 2)), "go"))
            self.assertEqual(self.values(machine), {((1,), (1, 2)): 1, ((1,),): 3, (): 1})

    def test_it_goes_on_where_there_is_no_such_deed(self):
        for machine in both(self.up_house((), (deed("other", "c", fix(1)),), (deed("go", "c", ITEM),))):
            machine.do(("press", ((2, 7), (1, 2)), "go"))
            self.assertEqual(self.values(machine), {(): 3})

    def test_it_stops_where_the_deed_does_not_go_on(self):
        for machine in both(self.up_house((deed("go", "c", fix(1)),), (deed("go", "c", fix(1)),), (deed("go", "c", fix(1)),))):
            machine.do(("press", ((1,), (1, 2)), "go"))
            self.assertEqual(self.values(machine), {((1,), (1, 2)): 1})

    def test_no_deed_anywhere(self):
        for machine in both(self.up_house()):
            before = machine.look()
            machine.do(("press", ((1,), (1, 2)), "go"))
            self.assertEqual(machine.look(), before)

    def test_presses_that_reach_no_instance(self):
        house = self.up_house((deed("go", "c", fix(1)),), (deed("go", "c", fix(1)),), (deed("go", "c", fix(1)),))
        for machine in both(house):
            for place, word in (((), "go"), (((1,),), "go"), (((1,), (1, 3)), "up"), (((1,), (1, 4)), "go"), (((9,),), "go"),
                                ([], "go"), (None, "go"), (((1,), (1, 3)), None), (((True,), (1, 3)), "go")):
                machine.do(("press", place, word))
            self.assertEqual(self.values(machine), {})

    def test_a_button_in_the_other_part_of_when_is_not_there(self):
        root = leaf("root", when_shape(get("c"), button_shape("off"), button_shape("on")), cells=(("c", 2, 0),),
                    deeds=(deed("off", "c", fix(0)), deed("on", "c", fix(1))))
        for machine in both(House([root], "root")):
            machine.do(("press", (), "off"))
            self.assertEqual(machine.value((), "c"), 0)
            machine.do(("press", (), "on"))
            self.assertEqual(machine.value((), "c"), 1)
            machine.do(("press", (), "on"))
            self.assertEqual(labels(machine.page), ["col", "button off"])

    def test_all_forms_are_worked_out_ahead_of_the_cells(self):
        sets = (("c", get("d")), ("d", get("c")), ("e", ("sum", get("c"), get("d"))))
        root = leaf("root", button_shape("swap"), cells=(("c", 4, 3), ("d", 2, 1), ("e", 3, 0)), deeds=(("swap", sets, False),))
        for machine in both(House([root], "root")):
            machine.do(("press", (), "swap"))
            self.assertEqual([machine.value((), name) for name in "cde"], [1, 1, 1])

    def test_a_deed_reads_what_the_instance_was_drawn_with(self):
        low = leaf("leaf", button_shape("keep"), text_shape(get("c")), takes=(("t", 4),), hears=(("h", 4, 0),),
                   cells=(("c", 4, 0), ("d", 4, 0)), looks=(),
                   deeds=(("keep", (("c", get("t")), ("d", get("h"))), True),))
        root = leaf("root", put_shape("leaf", get("n")), cells=(("n", 4, 1),), gives=(("h", 4, plus("n")),),
                    deeds=(deed("keep", "n", plus("n")),))
        house = House([root, low], "root")
        session, anew = both(house)
        for machine in (session, anew):
            machine.do(("press", ((1,),), "keep"))
            self.assertEqual([machine.value(((1,),), name) for name in "cd"], [1, 2])
            self.assertEqual(machine.value((), "n"), 2)
        # The child was drawn again since its cells changed; it looks at nothing, so the next press of another
        # instance leaves it as it was.
        root = root.changed(shape=col_shape(put_shape("leaf", get("n")), button_shape("more")),
                            deeds=(deed("more", "n", plus("n")),))
        session, anew = both(House([root, low], "root"))
        for machine in (session, anew):
            machine.do(("press", (), "more"))
            machine.do(("press", ((1,),), "keep"))
        self.assertEqual([session.value(((1,),), name) for name in "cd"], [1, 2])
        self.assertEqual([anew.value(((1,),), name) for name in "cd"], [2, 3])


class Drawing(unittest.TestCase):
    def test_gives_and_effects_are_those_of_the_last_drawing(self):
        low = leaf("leaf", text_shape(get("h")), put_shape("low"), hears=(("h", 4, 0),), takes=(("t", 4),),
                   gives=(("g", 4, get("t")),), effects=(("e", get("t"), ("t",)),), looks=())
        lowest = leaf("low", text_shape(get("g")), hears=(("g", 4, 3),))
        root = leaf("root", put_shape("leaf", get("n")), button_shape("more"), cells=(("n", 4, 1),),
                    deeds=(deed("more", "n", plus("n")),))
        house = House([root, low, lowest], "root")
        session, anew = both(house)
        for machine in (session, anew):
            machine.do(("press", (), "more"))
        self.assertEqual((session.value(((1,), (2,)), "g"), session.armed()), (1, [(((1,),), "e", 1)]))
        self.assertEqual((anew.value(((1,), (2,)), "g"), anew.look()[2]), (2, ((((1,),), "e", 2),)))

    def test_a_sent_question_makes_the_answer_0_ahead_of_the_rest(self):
        root = leaf("root", text_shape(get("a")), button_shape("more"), cells=(("n", 4, 0),), asks=(("a", get("n"), "last"),),
                    gives=(("g", 4, get("a")),), deeds=(deed("more", "n", plus("n")),))
        for machine in both(House([root], "root", far=((3, 3, 3, 3),))):
            machine.do(("land", 0))
            self.assertEqual(labels(machine.page)[1], "text 3")
            machine.do(("press", (), "more"))
            self.assertEqual((labels(machine.page)[1], machine.value((), "a")), ("text 0", 0))

    def test_the_question_is_told_modulo_4(self):
        for value, question in ((0, 0), (3, 3), (4, 0), (9, 1)):
            root = leaf("root", asks=(("a", fix(value), "last"),))
            for machine in both(House([root], "root")):
                self.assertEqual(machine.look()[3], (((), "a", question),))

    def test_a_question_is_sent_when_it_is_the_first_or_another_one(self):
        root = leaf("root", button_shape("more"), button_shape("stay"), cells=(("n", 4, 0), ("x", 2, 0)),
                    asks=(("a", get("n"), "last"), ("b", fix(2), "last")),
                    deeds=(deed("more", "n", plus("n")), deed("stay", "x", plus("x"))))
        for machine in both(House([root], "root", room=3)):
            self.assertEqual(machine.look()[3], (((), "a", 0), ((), "b", 2)))
            machine.do(("press", (), "stay"))
            self.assertEqual(machine.look()[3], (((), "a", 0), ((), "b", 2)))
            machine.do(("press", (), "more"))
            self.assertEqual(machine.look()[3], (((), "a", 0), ((), "b", 2), ((), "a", 1)))


if __name__ == "__main__":
    unittest.main()
