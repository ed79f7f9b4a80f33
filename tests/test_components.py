import unittest

from drawnanew.components import Component
from drawnanew.errors import BadComponent, NoName
from drawnanew.shapes import (
    button_shape, col_shape, each_shape, put_shape, row_shape, text_shape, when_shape,
)

ONE = ("is", 1)
ITEM = ("get", "item")
AT = ("get", "at")

PARTS = ["name", "takes", "hears", "cells", "asks", "gives", "effects", "deeds", "looks", "island", "shape"]

# A component that has one of each, and for each part what can stand there and is not as described.
GOOD = {
    "name": "some",
    "takes": (("t", 2), ("u", 4)),
    "hears": (("h", 3, 2),),
    "cells": (("c", 4, 3), ("d", 1, 0)),
    "asks": (("a", ("sum", ("get", "t"), ("get", "c")), "own"),),
    "gives": (("g", 2, ("get", "a")),),
    "effects": (("e", ("get", "h"), ("h", "a")),),
    "deeds": (("go", (("c", ("get", "item")), ("d", ONE)), True),),
    "looks": ("h", "t"),
    "island": ("kept", True),
    "shape": col_shape(text_shape(("get", "a")), button_shape("go")),
}

DEEP = ("sum", ("sum", ("sum", ("sum", ("sum", ONE, ONE), ONE), ONE), ONE), ONE)

SIZES = [0, 5, True, "2", None, -1]

WRONG = {
    "name": ["", "ninechars", "Some", "so me", "so1", 5, None, ("some",), True, b"some", "a-b"],
    "takes": [
        [("t", 2), ("u", 4)], None, 3, "tu", (("t", 2), ("t", 2)), (("item", 2),), (("at", 2),), (("T", 2),),
        (("t",),), (("t", 2, 0),), ("t2",), (["t", 2],), ((2, "t"),), (((), 2),), ((), ()),
        (("t", 1), ("u", 1), ("v", 1), ("w", 1)), (("t", 2), ("u", 2), ("", 2)),
    ] + [(("t", size),) for size in SIZES],
    "hears": [
        [("h", 3, 2)], None, (("h", 3),), (("h", 3, 2, 1),), (("h", 3, 3),), (("h", 3, -1),), (("h", 2, True),),
        (("h", 3, "2"),), (("t", 3, 2),), (("item", 3, 2),), (("at", 3, 2),), (("h", 3, 2), ("h", 3, 2)),
        (("h", 1, 0), ("i", 1, 0), ("j", 1, 0)), (["h", 3, 2],), (("H", 3, 2),), (("h", 3, None),),
    ] + [(("h", size, 0),) for size in SIZES],
    "cells": [
        [("c", 4, 3)], None, (("c", 4),), (("c", 4, 4),), (("c", 4, -1),), (("c", 4, True),), (("t", 4, 3),),
        (("h", 4, 3),), (("item", 4, 3),), (("at", 4, 3),), (("c", 4, 3), ("d", 1, 0), ("c", 4, 3)),
        tuple([(f"c{chr(97 + k)}", 1, 0) for k in range(13)]), (("c", 4, 3), ["d", 1, 0]), (("c", 4, 3), ("d.", 1, 0)),
    ] + [(("c", 4, 3), ("d", size, 0)) for size in SIZES],
    "asks": [
        [("a", ONE, "own")], None, (("a", ONE),), (("a", ONE, "own", 1),), (("a", ONE, "most"),), (("a", ONE, None),),
        (("a", ONE, []),), (("t", ONE, "own"),), (("h", ONE, "own"),), (("c", ONE, "own"),), (("item", ONE, "own"),),
        (("at", ONE, "own"),), (("a", ONE, "own"), ("a", ONE, "own")), (("a", ("is", 10), "own"),),
        (("a", ("is", True), "own"),), (("a", ("get", "a"), "own"),), (("a", ("get", "none"), "own"),),
        (("a", ONE, "own"), ("b", ("get", "a"), "own")), (("a", ITEM, "own"),), (("a", AT, "own"),), (("a", DEEP, "own"),),
        (("a", ONE, "own"), ("b", ONE, "own"), ("x", ONE, "own")), (["a", ONE, "own"],), (("a", ["is", 1], "own"),),
        (("a", ("get", "g"), "own"),),
    ],
    "gives": [
        [("g", 2, ONE)], None, (("g", 2),), (("g", 2, ONE, 1),), (("g", 2, ONE), ("g", 2, ONE)), (("item", 2, ONE),),
        (("at", 2, ONE),), (("G", 2, ONE),), (("g", 2, ITEM),), (("g", 2, AT),), (("g", 2, ("get", "g")),),
        (("g", 2, ("get", "none")),), (("g", 2, ()),), (("g", 2, DEEP),), (["g", 2, ONE],),
        (("g", 2, ONE), ("i", 2, ONE), ("j", 2, ONE)),
    ] + [(("g", size, ONE),) for size in SIZES],
    "effects": [
        [("e", ONE, ())], None, (("e", ONE),), (("e", ONE, (), 1),), (("e", ONE, ()), ("e", ONE, ())),
        (("E", ONE, ()),), (("", ONE, ()),), (("e", ITEM, ()),), (("e", ("get", "none"), ()),), (("e", ("is", -1), ()),),
        (("e", ONE, []),), (("e", ONE, ["h"]),), (("e", ONE, "h"),), (("e", ONE, ("h", "h")),), (("e", ONE, ("none",)),),
        (("e", ONE, ("item",)),), (("e", ONE, ("g",)),), (("e", ONE, (1,)),), (["e", ONE, ()],), (("e", DEEP, ()),),
        (("e", ONE, ()), ("f", ONE, ()), ("i", ONE, ())), (("e", ONE, None),),
    ],
    "deeds": [
        [("go", (("c", ONE),), True)], None, (("go", (("c", ONE),)),), (("go", (("c", ONE),), True, 1),),
        (("go", (("c", ONE),), True), ("go", (("d", ONE),), False)), (("Go", (("c", ONE),), True),),
        (("go", (), True),), (("go", [("c", ONE)], True),), (("go", (["c", ONE],), True),), (("go", (("c",),), True),),
        (("go", (("c", ONE, 1),), True),), (("go", (("c", ONE), ("c", ONE)), True),), (("go", (("t", ONE),), True),),
        (("go", (("h", ONE),), True),), (("go", (("a", ONE),), True),), (("go", (("none", ONE),), True),),
        (("go", ((1, ONE),), True),), (("go", (("c", AT),), True),), (("go", (("c", ("get", "none")),), True),),
        (("go", (("c", ("is", 11)),), True),), (("go", (("c", DEEP),), True),), (("go", (("c", ONE),), 1),),
        (("go", (("c", ONE),), 0),), (("go", (("c", ONE),), None),), (("go", (("c", ONE),), "stops"),),
        (["go", (("c", ONE),), True],), (("go", None, True),),
        tuple([(f"w{chr(97 + k)}", (("c", ONE),), True) for k in range(15)]),
    ],
    "looks": [["h"], "h", ("h", "h"), ("c",), ("a",), ("g",), ("none",), ("item",), (1,), 0, False, (None,)],
    "island": [
        ("kept",), ("kept", True, 1), ["kept", True], "kept", ("held", True), ("kept", 1), ("kept", 0), ("kept", None),
        (True, "kept"), (), False, 0, ([], True), (None, False),
    ],
    "shape": [
        None, (), [], "col", col_shape, ("col",), ("col", [text_shape(ONE)]), ("col", (), ()), text_shape(ONE),
        button_shape("go"), when_shape(ONE, col_shape(), col_shape()), put_shape("leaf"), ("page", ()), (1, ()),
        each_shape(ONE, ((1,),), ITEM, "leaf"), ["col", ()], (("col",), ()), ([], ()), ({}, ()),
    ],
}

# Parts of a column that are not as described.
WRONG_PARTS = [
    None, (), [], "text", ("text",), ("text", ONE, ONE), ["text", ONE], text_shape(("get", "none")), text_shape(ITEM),
    text_shape(AT), text_shape(("get", "g")), text_shape(DEEP), text_shape(("is", True)), text_shape(1),
    ("button",), ("button", "go", "go"), button_shape("Go"), button_shape(""), button_shape(1), button_shape("ninechars"),
    row_shape(None), row_shape(text_shape(ITEM)), ("row", None), ("row", [col_shape()]),
    ("when", ONE, col_shape()), ("when", ONE, col_shape(), col_shape(), col_shape()),
    when_shape(ITEM, col_shape(), col_shape()), when_shape(ONE, col_shape(), None), when_shape(ONE, None, col_shape()),
    ("put", "leaf"), ("put", "leaf", (), ()), put_shape("Leaf"), put_shape(1), put_shape("leaf", ITEM), put_shape("leaf", AT),
    put_shape("leaf", ("get", "none")), ("put", "leaf", [ONE]), ("put", "leaf", ONE), ("put", "leaf", None),
    ("each", ONE, ((1,),), ITEM, "leaf"), ("each", ONE, ((1,),), ITEM, "leaf", (), ()),
    each_shape(ITEM, ((1,),), ITEM, "leaf"), each_shape(AT, ((1,),), ITEM, "leaf"), each_shape(ONE, (), ITEM, "leaf"),
    each_shape(ONE, [(1,)], ITEM, "leaf"), each_shape(ONE, ([1],), ITEM, "leaf"), each_shape(ONE, ((1, 1),), ITEM, "leaf"),
    each_shape(ONE, ((10,),), ITEM, "leaf"), each_shape(ONE, ((-1,),), ITEM, "leaf"), each_shape(ONE, ((True,),), ITEM, "leaf"),
    each_shape(ONE, ((1, 2, 3, 4, 5, 6),), ITEM, "leaf"), each_shape(ONE, ((), (), (), (), ()), ITEM, "leaf"),
    each_shape(ONE, None, ITEM, "leaf"), each_shape(ONE, ((1,), None), ITEM, "leaf"), each_shape(ONE, ((1,), ("a",)), ITEM, "leaf"),
    each_shape(ONE, ((1,),), ("get", "t"), "leaf"), each_shape(ONE, ((1,),), ("get", "none"), "leaf"),
    each_shape(ONE, ((1,),), None, "leaf"), each_shape(ONE, ((1,),), ("get",), "leaf"), each_shape(ONE, ((1,),), DEEP, "leaf"),
    each_shape(ONE, ((1,),), ITEM, "Leaf"), each_shape(ONE, ((1,),), ITEM, None),
    each_shape(ONE, ((1,),), ITEM, "leaf", ("get", "none")), each_shape(ONE, ((1,),), ITEM, "leaf", 1),
    ("each", ONE, ((1,),), ITEM, "leaf", [ITEM]), ("each", ONE, ((1,),), ITEM, "leaf", None),
]


def made(**parts):
    return Component(**{**GOOD, **parts})


def chain(levels):
    shape = col_shape()
    for _ in range(levels - 1):
        shape = row_shape(shape)
    return shape


class Parts(unittest.TestCase):
    def wrong(self, part, **parts):
        with self.assertRaises(BadComponent) as caught:
            made(**parts)
        self.assertEqual(caught.exception.part, part)

    def test_fields_are_the_parts(self):
        component = made()
        for part, told in GOOD.items():
            self.assertEqual(getattr(component, part), told)

    def test_fields_of_the_least_component(self):
        component = Component("least", row_shape())
        for part in PARTS[1:8]:
            self.assertEqual(getattr(component, part), ())
        self.assertEqual((component.name, component.shape), ("least", ("row", ())))
        self.assertEqual((component.looks, component.island), ((), None))

    def test_each_wrong_part(self):
        for part, things in WRONG.items():
            for thing in things:
                with self.subTest(part=part, thing=thing):
                    self.wrong(part, **{part: thing})

    def test_each_wrong_shape_within_the_top(self):
        for part in WRONG_PARTS:
            with self.subTest(part=part):
                self.wrong("shape", shape=col_shape(part))
                self.wrong("shape", shape=row_shape(text_shape(ONE), col_shape(when_shape(ONE, part, text_shape(ONE)))))

    def test_the_first_wrong_part_in_order(self):
        bad = {part: things[0] for part, things in WRONG.items()}
        for at, part in enumerate(PARTS):
            self.wrong(part, **{later: bad[later] for later in PARTS[at:]})

    def test_a_name_twice_is_wrong_in_the_later_part(self):
        kinds = [("takes", ("x", 2)), ("hears", ("x", 2, 0)), ("cells", ("x", 2, 0)), ("asks", ("x", ONE, "any"))]
        for at, (_, first) in enumerate(kinds):
            for later, second in kinds[at + 1:]:
                with self.subTest(later):
                    with self.assertRaises(BadComponent) as caught:
                        Component("some", col_shape(), **{kinds[at][0]: (first,), later: (second,)})
                    self.assertEqual(caught.exception.part, later)

    def test_what_is_given_may_have_a_name_of_its_own_component(self):
        for name in ("t", "h", "c", "a", "e"):
            self.assertEqual(made(gives=((name, 2, ONE),)).gives, ((name, 2, ONE),))

    def test_words_may_be_names_and_item(self):
        component = made(
            effects=(("item", ONE, ()), ("t", ONE, ())), deeds=(("item", (("c", ONE),), False), ("at", (("c", ONE),), False)),
        )
        self.assertEqual([row[0] for row in component.deeds], ["item", "at"])
        self.assertEqual([row[0] for row in component.effects], ["item", "t"])

    def test_what_forms_read(self):
        for name in ("t", "h", "c"):
            made(asks=(("a", ("get", name), "any"),))
        for name in ("t", "u", "h", "c", "d", "a"):
            form = ("get", name)
            made(
                gives=(("g", 2, form),), effects=(("e", form, (name,)),), deeds=(("go", (("c", form),), False),),
                shape=col_shape(text_shape(form), when_shape(form, put_shape("leaf", form), each_shape(
                    form, ((1,),), AT, "leaf", form, ITEM, AT))),
            )

    def test_the_greatest_parts(self):
        cells = tuple([(f"c{chr(97 + k)}", 4, 3) for k in range(12)])
        sets = tuple([(cells[k][0], ITEM) for k in range(5)])
        component = Component(
            "eightchr", col_shape(*[text_shape(("get", "cl"))] * 11, chain(4)),
            takes=(("abcdefgh", 4), ("u", 1), ("v", 4)), hears=(("h", 4, 3), ("i", 1, 0)), cells=cells,
            asks=(("a", ONE, "any"), ("b", ONE, "last")), gives=(("g", 4, ONE), ("f", 1, ONE)),
            effects=(("e", ONE, ()), ("f", ONE, ("a", "b", "u", "h", "ca"))),
            deeds=tuple([(f"w{chr(97 + k)}", sets, k % 2 == 0) for k in range(14)]),
            looks=("i", "v", "h", "abcdefgh", "u"), island=("takes", False),
        )
        self.assertEqual(len(component.names), 3 + 2 + 12 + 2)
        self.assertEqual(component.looks, ("i", "v", "h", "abcdefgh", "u"))

    def test_a_deed_sets_at_most_5_cells(self):
        cells = tuple([(f"c{chr(97 + k)}", 4, 3) for k in range(6)])
        for many in range(1, 6):
            sets = tuple([(name, ONE) for name, _, _ in cells[:many]])
            Component("some", col_shape(), cells=cells, deeds=(("go", sets, True),))
        with self.assertRaises(BadComponent) as caught:
            Component("some", col_shape(), cells=cells, deeds=(("go", sets + (("cf", ONE),), True),))
        self.assertEqual(caught.exception.part, "deeds")

    def test_number_and_levels_of_shapes(self):
        texts = [text_shape(ONE)] * 15
        self.assertEqual(len(made(shape=col_shape(*texts)).shape[1]), 15)
        self.wrong("shape", shape=col_shape(*texts, text_shape(ONE)))
        self.wrong("shape", shape=col_shape(*texts[:13], when_shape(ONE, texts[0], texts[0])))
        made(shape=col_shape(*texts[:12], when_shape(ONE, texts[0], texts[0])))
        made(shape=chain(5))
        self.wrong("shape", shape=chain(6))
        self.wrong("shape", shape=col_shape(when_shape(ONE, row_shape(row_shape(row_shape(row_shape()))), row_shape())))

    def test_all_fences_presses_and_menus(self):
        for fence in ("any", "own", "same", "both", "last"):
            self.assertEqual(made(asks=(("a", ONE, fence),)).asks[0][2], fence)
        for press in ("lost", "kept", "takes"):
            for check in (True, False):
                self.assertEqual(made(island=(press, check)).island, (press, check))
        for menu in (((),), ((1, 2, 3, 4, 5), (), (9, 0), (9, 0))):
            made(shape=col_shape(each_shape(ONE, menu, ("sum", ITEM, AT), "leaf")))


class Looks(unittest.TestCase):
    def test_none_stands_for_all_names(self):
        self.assertEqual(made(looks=None).looks, ("t", "u", "h"))
        self.assertEqual(made(looks=()).looks, ())

    def test_any_order(self):
        self.assertEqual(made(looks=("h", "u", "t")).looks, ("h", "u", "t"))


class Names(unittest.TestCase):
    def test_names_and_sizes(self):
        component = made()
        self.assertEqual(component.names, ("t", "u", "h", "c", "d", "a"))
        self.assertEqual([component.size_of(name) for name in component.names], [2, 4, 3, 4, 1, 4])

    def test_no_name(self):
        for name in ("g", "e", "go", "item", "some", "", None, 1, [], True):
            with self.subTest(name=name), self.assertRaises(NoName) as caught:
                made().size_of(name)
            self.assertEqual(caught.exception.name, name)

    def test_no_names(self):
        self.assertEqual(Component("least", row_shape()).names, ())


class Changed(unittest.TestCase):
    def test_these_parts_alone(self):
        component = made()
        other = component.changed(name="other", island=None, looks=())
        self.assertIsInstance(other, Component)
        for part, told in GOOD.items():
            self.assertEqual(getattr(component, part), told)
            if part not in ("name", "island", "looks"):
                self.assertEqual(getattr(other, part), told)
        self.assertEqual((other.name, other.island, other.looks), ("other", None, ()))

    def test_no_parts(self):
        other = made().changed()
        for part, told in GOOD.items():
            self.assertEqual(getattr(other, part), told)

    def test_looks_none_again(self):
        self.assertEqual(made().changed(looks=None).looks, ("t", "u", "h"))

    def test_looks_stay_when_takes_change(self):
        with self.assertRaises(BadComponent) as caught:
            Component("some", col_shape(), takes=(("t", 2),)).changed(takes=())
        self.assertEqual(caught.exception.part, "looks")

    def test_wrong_parts(self):
        component = made()
        for part, things in WRONG.items():
            with self.assertRaises(BadComponent) as caught:
                component.changed(**{part: things[0]})
            self.assertEqual(caught.exception.part, part)
            self.assertEqual(getattr(component, part), GOOD[part])


if __name__ == "__main__":
    unittest.main()
