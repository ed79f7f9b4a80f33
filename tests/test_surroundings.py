import unittest

from drawnanew.components import Component
from drawnanew.errors import BadComponent, BadHouse, ScreenError, TooMany, Unknown
from drawnanew.houses import House
from drawnanew.marks import weak_marks
from drawnanew.shapes import button_shape, col_shape, each_shape, put_shape, row_shape, text_shape, when_shape
from drawnanew.surroundings import stub, widest
from tests.helpers import deed, dice, fix, get, house_told, parts_of, plus
from tests.making import random_house

PLAIN = {
    "takes": (), "hears": (), "cells": (), "asks": (), "gives": (), "effects": (), "deeds": (), "looks": (),
    "island": None,
}


def texts(*names):
    return tuple([("text", get(name)) for name in names])


def pressed(*words):
    return tuple([("button", word) for word in words])


def sets(*pairs):
    return tuple([(cell, get(name)) for cell, name in pairs])


def up(word, cell):
    return (word, ((cell, ("sum", get(cell), ("is", 1))),), False)


class Stub(unittest.TestCase):
    def check(self, component, child, **parts):
        self.assertEqual(parts_of(stub(component, child)), {**PLAIN, "name": child.name, **parts})

    def test_of_a_plain_child_in_a_plain_component(self):
        self.check(
            Component("root", col_shape()), Component("kid", row_shape(text_shape(fix(1)))),
            cells=(("a", 2, 0),), deeds=(up("a", "a"),), shape=("col", texts("a") + pressed("a")),
        )

    def test_takes_hears_cell_deed_and_shape(self):
        component = Component(
            "root", col_shape(button_shape("c"), row_shape(when_shape(fix(0), button_shape("a"), text_shape(fix(0))))),
            cells=(("z", 4, 1),), gives=(("b", 3, get("z")), ("d", 4, fix(1))),
            deeds=(deed("b", "z", fix(0)), deed("go", "z", fix(1), True)),
        )
        child = Component("kid", col_shape(), takes=(("x", 2), ("y", 4), ("q", 1)), looks=())
        self.check(
            component, child, takes=(("a", 2), ("c", 4), ("e", 1)), hears=(("b", 3, 0), ("d", 4, 0)),
            cells=(("f", 2, 0),), deeds=(up("d", "f"),), looks=("a", "c", "e", "b", "d"),
            shape=("col", texts("a", "c", "e", "b", "d", "f") + pressed("d", "b", "go")),
        )

    def test_only_what_the_child_takes_and_its_name_has_a_say(self):
        component = Component("root", col_shape(button_shape("a")), gives=(("a", 2, fix(1)),))
        child = Component(
            "kid", col_shape(button_shape("k")), takes=(("t", 3),), hears=(("h", 2, 1),), cells=(("c", 4, 3),),
            gives=(("g", 3, fix(2)),), effects=(("e", get("t"), ()),), deeds=(deed("d", "c", fix(1)),), looks=("h",),
            asks=(("q", fix(1), "any"),),
        )
        told = stub(component, child)
        self.assertEqual(parts_of(told), parts_of(stub(component, Component("kid", row_shape(), takes=(("u", 3),)))))
        isle = child.changed(island=("lost", False), asks=())
        self.assertEqual(parts_of(told), parts_of(stub(component, isle)))

    def test_names_that_are_spare_names_already(self):
        for gives, names in [
            (("a", "b"), "cdef"), (("b", "c"), "adef"), (("f", "a"), "bcde"), (("d", "c"), "abef"), (("zz", "y"), "abcd"),
        ]:
            with self.subTest(gives):
                component = Component("root", col_shape(), gives=tuple([(name, 2, fix(0)) for name in gives]))
                child = Component("kid", col_shape(), takes=(("x", 2), ("y", 3), ("z", 4)))
                told = stub(component, child)
                self.assertEqual(told.takes, ((names[0], 2), (names[1], 3), (names[2], 4)))
                self.assertEqual(told.cells, ((names[3], 2, 0),))

    def test_the_word_is_no_word_of_a_deed_or_of_a_button(self):
        letters = "abcdefghijklmnopqrstuvwxyz"
        for deeds, buttons, word in [
            ("", "", "a"), ("a", "", "b"), ("", "a", "b"), ("b", "c", "a"), ("bd", "ac", "e"), ("ab", "ab", "c"),
            (letters[:9], letters[9:15], "p"), (letters[12:20], letters[:12], "u"), (["go", "aa"], "b", "a"),
        ]:
            with self.subTest(deeds=deeds, buttons=buttons):
                shape = col_shape(*[button_shape(told) for told in buttons])
                told = tuple([deed(name, "cell", fix(0)) for name in deeds])
                component = Component("root", shape, cells=(("cell", 2, 0),), deeds=told)
                made = stub(component, Component("kid", col_shape()))
                self.assertEqual(made.deeds[0][0], word)
                self.assertEqual(made.shape[1][1:], pressed(word, *deeds))

    def test_names_of_components_are_no_words(self):
        component = Component("root", col_shape(put_shape("a"), text_shape(get("a"))), cells=(("a", 2, 0),))
        self.assertEqual(stub(component, Component("a", col_shape())).deeds, (up("a", "a"),))

    def test_past_z(self):
        letters = "abcdefghijklmnopqrstuvwxyz"
        shape = col_shape(*[button_shape(word) for word in letters[12:]])
        deeds = tuple([deed(word, "cell", fix(0)) for word in letters[:12]])
        component = Component("root", shape, cells=(("cell", 2, 0),), deeds=deeds)
        self.assertEqual(stub(component, Component("kid", col_shape())).deeds, (up("aa", "a"),))
        shape = col_shape(*shape[1][:-1], button_shape("aa"))
        component = component.changed(shape=shape)
        self.assertEqual(stub(component, Component("kid", col_shape())).deeds, (up("z", "a"),))
        shape = col_shape(*shape[1][:-1], button_shape("z"), button_shape("aa"))
        self.assertEqual(len(shape[1]), 15)
        component = component.changed(shape=shape)
        self.assertEqual(stub(component, Component("kid", col_shape())).deeds, (up("ab", "a"),))

    def test_all_marks_are_full(self):
        component = Component("root", col_shape(), gives=(("a", 2, fix(1)),))
        child = Component("kid", col_shape(), takes=(("t", 3),), looks=())
        told = stub(component, child)
        house = House([Component("root", col_shape(put_shape("kid", fix(0)))), told], "root")
        self.assertEqual(weak_marks(house), [])

    def test_a_stub_beyond_a_bound(self):
        # A column, a text, a button of its own and one for each of the deeds: at most 16 shapes.
        for deeds, takes, gives, right in [(13, 0, 0, True), (14, 0, 0, False), (10, 3, 0, True), (10, 2, 2, False)]:
            with self.subTest(deeds=deeds, takes=takes, gives=gives):
                words = "abcdefghijklmn"[:deeds]
                component = Component(
                    "root", col_shape(), cells=(("c", 2, 0),), deeds=tuple([deed(word, "c", fix(0)) for word in words]),
                    gives=tuple([(name, 2, fix(0)) for name in "xy"[:gives]]))
                child = Component("kid", col_shape(), takes=tuple([(name, 2) for name in "tuv"[:takes]]))
                if right:
                    self.assertEqual(len(stub(component, child).shape[1]), 15)
                    continue
                with self.assertRaises(BadComponent) as caught:
                    stub(component, child)
                self.assertEqual(caught.exception.part, "shape")


KID = Component("kid", col_shape(text_shape(get("t"))), takes=(("t", 2),), looks=())
BOX = Component(
    "box",
    col_shape(
        button_shape("b"), text_shape(get("q")), put_shape("leaf"),
        each_shape(get("u"), ((1, 2),), ("get", "at"), "kid", ("get", "item")), put_shape("leaf"),
    ),
    takes=(("u", 2), ("v", 3)), hears=(("h", 4, 2),), cells=(("c", 2, 1),), asks=(("q", get("u"), "own"),),
    gives=(("g", 3, get("v")),), effects=(("e", get("c"), ()),), looks=("u",),
    deeds=(deed("go", "c", plus("c"), True), deed("stay", "c", fix(0)), deed("on", "c", fix(1), True)),
)
LEAF = Component("leaf", col_shape())
ROOT = Component("root", col_shape(put_shape("box", fix(0), fix(1))), cells=(("w", 2, 0),))
HOUSE = House(
    [ROOT, KID, BOX, LEAF], "root", far=((3, 3, 3, 3), (1, 1, 1, 1)), room=3, focus="first", elder=(("w", 1),))


class Widest(unittest.TestCase):
    def check_root(self, house, of, **parts):
        """The new root of the widest house of this component has these parts."""
        told = widest(house, of)
        self.assertEqual(parts_of(told.components[0]), {**PLAIN, **parts})

    def test_with_next_cells(self):
        self.check_root(
            HOUSE, "box", name="a",
            cells=(("u", 2, 0), ("v", 3, 0), ("h", 4, 2), ("a", 2, 0), ("b", 3, 0), ("c", 4, 2), ("d", 2, 1)),
            gives=(("h", 4, get("h")),),
            deeds=(
                up("a", "a"), up("c", "b"), up("d", "c"), ("e", sets(("u", "a"), ("v", "b"), ("h", "c")), False),
                up("f", "d"), ("go", sets(("u", "a"), ("v", "b"), ("h", "c")), False),
                ("on", sets(("u", "a"), ("v", "b"), ("h", "c")), False),
            ),
            shape=("col", pressed("a", "c", "d", "e", "f") + (
                ("when", get("d"), ("put", "box", (get("u"), get("v"))), ("row", ())),)),
        )

    def test_the_other_components(self):
        told = widest(HOUSE, "box")
        self.assertEqual([component.name for component in told], ["a", "box", "leaf", "kid"])
        self.assertEqual(parts_of(told["box"]), parts_of(BOX))
        self.assertEqual(parts_of(told["leaf"]), parts_of(stub(BOX, LEAF)))
        self.assertEqual(parts_of(told["kid"]), parts_of(stub(BOX, KID)))

    def test_the_other_parts_of_the_house(self):
        told = house_told(widest(HOUSE, "box"))
        self.assertEqual({**told, "components": None}, {
            "root": "a", "far": HOUSE.far, "room": 3, "focus": "first", "elder": (), "components": None})

    def test_without_next_cells(self):
        self.check_root(
            HOUSE, "leaf", name="a", cells=(("a", 2, 1),), deeds=(up("a", "a"),),
            shape=("col", pressed("a") + (("when", get("a"), ("put", "leaf", ()), ("row", ())),)),
        )
        self.assertEqual([component.name for component in widest(HOUSE, "leaf")], ["a", "leaf"])

    def test_without_next_cells_no_deed_for_those_that_go_on(self):
        root = ROOT.changed(deeds=(deed("a", "w", fix(1), True), deed("out", "w", fix(0))))
        self.check_root(
            HOUSE.replaced(root), "root", name="a", cells=(("a", 2, 1),), deeds=(up("b", "a"),),
            shape=("col", pressed("b") + (("when", get("a"), ("put", "root", ()), ("row", ())),)),
        )

    def test_what_is_heard_alone(self):
        root = Component("root", col_shape(), hears=(("a", 3, 2), ("c", 2, 0)), looks=())
        self.check_root(
            House([root], "root"), "root", name="a",
            cells=(("a", 3, 2), ("c", 2, 0), ("b", 3, 2), ("d", 2, 0), ("e", 2, 1)),
            gives=(("a", 3, get("a")), ("c", 2, get("c"))),
            deeds=(up("a", "b"), up("b", "d"), ("c", sets(("a", "b"), ("c", "d")), False), up("d", "e")),
            shape=("col", pressed("a", "b", "c", "d") + (("when", get("e"), ("put", "root", ()), ("row", ())),)),
        )

    def test_the_name_of_the_new_root_is_that_of_no_component_of_the_house(self):
        leaves = [LEAF.changed(name=name) for name in ("b", "a", "d")]
        house = House([Component("root", col_shape(put_shape("a")))] + leaves, "root")
        self.assertEqual(widest(house, "a").root, "c")
        self.assertEqual(widest(house, "root").root, "c")
        self.assertEqual([component.name for component in widest(house, "root")], ["c", "root", "a"])

    def test_names_and_words_past_z(self):
        letters = "abcdefghijklmnopqrstuvwxyz"
        box = Component(
            "box", col_shape(*[button_shape(word) for word in letters[12:]]), takes=(("t", 2),), cells=(("c", 2, 0),),
            deeds=tuple([deed(word, "c", fix(0)) for word in letters[:12]]))
        house = House([Component("root", col_shape(put_shape("box", fix(0)))), box], "root")
        words = [word for word, _, _ in widest(house, "box").components[0].deeds]
        self.assertEqual(words, ["aa", "ab", "ac"])

    def test_an_island_is_none_and_the_other_marks_stay(self):
        isle = Component(
            "isle", col_shape(each_shape(fix(0), ((1,),), fix(3), "leaf")), takes=(("t", 2),), looks=(),
            effects=(("e", get("t"), ()),), island=("lost", False))
        house = House([Component("root", col_shape(put_shape("isle", fix(1)))), isle, LEAF], "root")
        told = widest(house, "isle")
        self.assertEqual(parts_of(told["isle"]), {**parts_of(isle), "island": None})
        self.assertEqual(weak_marks(told), [("looks", "isle"), ("key", "isle", 1), ("effect", "isle", "e")])
        self.assertEqual(weak_marks(widest(HOUSE, "box")), [
            ("looks", "box"), ("key", "box", 4), ("effect", "box", "e"), ("fence", "box", "q")])

    def test_a_component_that_the_root_does_not_reach(self):
        house = House([LEAF.changed(name="root"), KID], "root")
        self.assertEqual(widest(house, "kid").root, "a")
        self.assertEqual(widest(house, "kid").most, 2)

    def test_unknown(self):
        for name in ["none", "", None, 1, ["box"], BOX]:
            with self.subTest(name), self.assertRaises(Unknown) as caught:
                widest(HOUSE, name)
            self.assertEqual(caught.exception.name, name)

    def test_the_house_stays(self):
        before = house_told(HOUSE)
        widest(HOUSE, "box")
        self.assertEqual(house_told(HOUSE), before)


class Bounds(unittest.TestCase):
    def house(self, box, *others):
        root = Component("root", col_shape(put_shape("box", *[fix(0) for _ in box.takes])))
        return House([root, box] + list(others), "root")

    def error(self, house, name="box"):
        with self.assertRaises(ScreenError) as caught:
            widest(house, name)
        return caught.exception

    def box(self, goes, takes, *shapes, **parts):
        return Component(
            "box", col_shape(*shapes), cells=(("c", 2, 0),), takes=tuple([(name, 2) for name in "tuv"[:takes]]),
            deeds=tuple([deed(word, "c", fix(0), True) for word in "abcdefghijklmn"[:goes]]), **parts)

    def test_the_deeds_of_the_root(self):
        self.assertEqual(len(widest(self.house(self.box(11, 1)), "box").components[0].deeds), 14)
        error = self.error(self.house(self.box(12, 1)))
        self.assertIsInstance(error, BadComponent)
        self.assertEqual(error.part, "deeds")
        self.assertEqual(len(widest(self.house(self.box(14, 0)), "box").components[0].deeds), 1)

    def test_a_stub(self):
        error = self.error(self.house(self.box(14, 0, put_shape("leaf")), LEAF))
        self.assertIsInstance(error, BadComponent)
        self.assertEqual(error.part, "shape")

    def test_a_stub_is_ahead_of_the_root(self):
        error = self.error(self.house(self.box(14, 3, put_shape("leaf")), LEAF))
        self.assertEqual((error.__class__, error.part), (BadComponent, "shape"))

    def test_the_most_components(self):
        leaves = [LEAF.changed(name=name) for name in ("l", "m", "n", "o", "p")]
        root = Component("root", col_shape(*[put_shape(leaf.name) for leaf in leaves]))
        error = self.error(House([root] + leaves, "root"), "root")
        self.assertEqual((error.__class__, error.part), (BadHouse, "components"))
        root = Component("root", col_shape(*[put_shape(leaf.name) for leaf in leaves[1:]]))
        self.assertEqual(len(widest(House([root] + leaves, "root"), "root").components), 6)

    def test_the_most_instances(self):
        rows = [each_shape(fix(0), ((1, 2, 3, 4, 5),), ("get", "item"), "leaf") for _ in range(5)]
        loose = Component("loose", col_shape(*rows[:4], put_shape("leaf"), put_shape("leaf")))
        house = House([LEAF.changed(name="root"), loose, LEAF], "root")
        self.assertEqual(widest(house, "loose").most, 24)
        error = self.error(house.replaced(loose.changed(shape=col_shape(*rows))), "loose")
        self.assertEqual((error.__class__, error.count), (TooMany, 27))


class Seeds(unittest.TestCase):
    def test_the_component_alone_has_weak_marks(self):
        many = 0
        for seed in range(120):
            house = random_house(dice(8000 + seed), False, islands=seed % 2 == 0)
            for component in house:
                told = widest(house, component.name)
                mine = [mark for mark in weak_marks(house) if mark[1] == component.name and mark[0] != "island"]
                self.assertEqual(weak_marks(told), mine)
                self.assertEqual(told.most, 2 + sum([
                    1 if shape[0] == "put" else max([len(row) for row in shape[2]])
                    for shape in self.handing(component.shape)]))
                many += len(mine)
        self.assertGreater(many, 100)

    def handing(self, shape):
        inner = shape[1] if shape[0] in ("row", "col") else shape[2:] if shape[0] == "when" else ()
        found = [shape] if shape[0] in ("put", "each") else []
        return found + [deep for part in inner for deep in self.handing(part)]


if __name__ == "__main__":
    unittest.main()
