import unittest

from drawnanew.components import Component
from drawnanew.errors import BadHouse, Ring, TooMany, Unknown
from drawnanew.houses import House
from drawnanew.shapes import button_shape, col_shape, each_shape, put_shape, row_shape, text_shape, when_shape

ONE = ("is", 1)
ITEM = ("get", "item")

ROOT = Component(
    "root", col_shape(put_shape("leaf", ONE), button_shape("go")), cells=(("c", 4, 0), ("d", 2, 1)),
)
LEAF = Component("leaf", col_shape(), takes=(("t", 2),))
PARTS = ["components", "root", "far", "room", "focus", "elder"]

GOOD = {
    "components": [ROOT, LEAF],
    "root": "root",
    "far": ((1, 2, 3, 1), (3, 3, 1, 2)),
    "room": 3,
    "focus": "first",
    "elder": (("d", 0), ("c", 3)),
}

WRONG = {
    "components": [
        [], None, (ROOT, LEAF), "root", [ROOT, LEAF, ROOT], [ROOT, LEAF, LEAF.changed(takes=(), looks=())], [ROOT, None],
        [ROOT, "leaf"], [ROOT, LEAF] + [Component(f"c{chr(97 + k)}", col_shape()) for k in range(5)], {"root": ROOT},
        [ROOT, [LEAF]], 1,
    ],
    "root": ["none", "", None, 0, "leaf", ["root"], ("root",), ROOT],
    "far": [
        (), [(1, 2, 3, 1)], None, ((1, 2, 3),), ((1, 2, 3, 1, 1),), ((1, 2, 3, 0),), ((1, 2, 4, 1),), ((1, 2, True, 1),),
        ((1, 2, "3", 1),), ([1, 2, 3, 1],), ((1, 2, 3, 1), (1, 1, 1, 1), (2, 2, 2, 2), (3, 3, 3, 3)),
        ((1, 2, 3, 1), (1, 1, 1)), (1, 2, 3, 1), ((1, 2, 3, None),),
    ],
    "room": [0, 4, -1, True, None, "2", (2,)],
    "focus": ["", "nearest", None, 1, True, ("near",), []],
    "elder": [
        [("c", 1)], None, ("c", 1), (("c",),), (("c", 1, 1),), (("c", 4),), (("c", -1),), (("d", True),), (("d", 2),),
        (("c", "1"),), (("c", 1), ("c", 2)), (("none", 0),), (("t", 0),), (["c", 1],), ((1, 0),), (("c", None),),
        (("c", 1), ("d", 1), ("none", 0)),
    ],
}


def made(**parts):
    told = {**GOOD, **parts}
    return House(told.pop("components"), told.pop("root"), **told)


def leaf(name, **parts):
    return Component(name, col_shape(), **parts)


def box(name, *shapes, **parts):
    return Component(name, col_shape(*shapes), **parts)


class Parts(unittest.TestCase):
    def test_fields_are_the_parts(self):
        house = made()
        for part in PARTS[1:]:
            self.assertEqual(getattr(house, part), GOOD[part])
        self.assertEqual(house.components, (ROOT, LEAF))

    def test_what_is_left_out(self):
        house = House([LEAF.changed(takes=(), looks=())], "leaf")
        self.assertEqual((house.far, house.room, house.focus, house.elder), (((1, 2, 3, 1),), 2, "near", ()))

    def test_each_wrong_part(self):
        for part, things in WRONG.items():
            for thing in things:
                with self.subTest(part=part, thing=thing), self.assertRaises(BadHouse) as caught:
                    made(**{part: thing})
                self.assertEqual(caught.exception.part, part)

    def test_the_first_wrong_part_in_order(self):
        for at, part in enumerate(PARTS):
            with self.assertRaises(BadHouse) as caught:
                made(**{later: WRONG[later][0] for later in PARTS[at:]})
            self.assertEqual(caught.exception.part, part)

    def test_a_root_that_takes_or_has_an_island(self):
        for root in (leaf("some", takes=(("t", 1),)), leaf("some", island=("lost", True))):
            with self.assertRaises(BadHouse) as caught:
                House([root], "some")
            self.assertEqual(caught.exception.part, "root")
        House([leaf("some", hears=(("h", 2, 0),), asks=(("a", ONE, "any"),))], "some")

    def test_wrong_parts_come_ahead_of_what_is_behind_them(self):
        with self.assertRaises(BadHouse) as caught:
            House([box("root", put_shape("none"))], "root", elder=(("c", 0),))
        self.assertEqual(caught.exception.part, "elder")

    def test_the_list_is_copied(self):
        rows = [ROOT, LEAF]
        house = House(rows, "root")
        rows.clear()
        self.assertEqual(house.components, (ROOT, LEAF))
        self.assertEqual(list(house), [ROOT, LEAF])

    def test_greatest_and_least_parts(self):
        made(components=[ROOT, LEAF] + [leaf(f"c{chr(97 + k)}") for k in range(4)])
        for room in (1, 2, 3):
            self.assertEqual(made(room=room).room, room)
        for rule in ("none", "first", "near"):
            self.assertEqual(made(focus=rule).focus, rule)
        made(far=((1, 1, 1, 1), (2, 2, 2, 2), (3, 3, 3, 3)))


class Unknowns(unittest.TestCase):
    def unknown(self, components, name):
        with self.assertRaises(Unknown) as caught:
            House(components, "root")
        self.assertEqual(caught.exception.name, name)

    def test_first_by_component_and_number(self):
        other = box("other", put_shape("gone"))
        root = box("root", row_shape(text_shape(ONE), when_shape(
            ONE, put_shape("lost"), each_shape(ONE, ((1,),), ITEM, "away"))), put_shape("far"))
        self.unknown([root, other], "lost")
        self.unknown([other, root], "gone")
        self.unknown([box("root", each_shape(ONE, ((),), ITEM, "away"))], "away")
        self.unknown([box("root", when_shape(ONE, col_shape(), put_shape("away")))], "away")

    def test_also_where_the_root_does_not_reach(self):
        self.unknown([leaf("root"), box("other", put_shape("gone"))], "gone")

    def test_ahead_of_all_else(self):
        root = box("root", put_shape("leaf"), put_shape("root"), put_shape("gone"))
        self.unknown([root, LEAF], "gone")


class Forms(unittest.TestCase):
    def wrong(self, *components):
        with self.assertRaises(BadHouse) as caught:
            House(list(components), "root")
        self.assertEqual(caught.exception.part, "forms")

    def test_too_few_and_too_many(self):
        self.wrong(box("root", put_shape("leaf")), LEAF)
        self.wrong(box("root", put_shape("leaf", ONE, ONE)), LEAF)
        self.wrong(box("root", each_shape(ONE, ((1,),), ITEM, "leaf")), LEAF)
        self.wrong(box("root", each_shape(ONE, ((),), ITEM, "leaf", ONE, ONE)), LEAF)
        self.wrong(box("root", put_shape("leaf", ONE, ONE, ONE, ONE)), leaf("leaf", takes=(("t", 1), ("u", 1), ("v", 1))))

    def test_in_both_parts_of_when_and_where_the_root_does_not_reach(self):
        self.wrong(box("root", when_shape(ONE, put_shape("leaf", ONE), put_shape("leaf"))), LEAF)
        self.wrong(leaf("root"), LEAF, box("other", put_shape("leaf")))

    def test_ahead_of_a_ring(self):
        self.wrong(box("root", put_shape("root"), put_shape("leaf")), LEAF)


class Rings(unittest.TestCase):
    def ring(self, components, name):
        with self.assertRaises(Ring) as caught:
            House(components, "root")
        self.assertEqual(caught.exception.name, name)

    def test_the_first_that_stands_within_itself(self):
        self.ring([box("root", put_shape("root"))], "root")
        one, two = box("one", put_shape("two")), box("two", each_shape(ONE, ((),), ITEM, "one"))
        root = box("root", put_shape("one"))
        self.ring([root, one, two], "one")
        self.ring([root, two, one], "two")

    def test_where_the_root_does_not_reach(self):
        self.ring([leaf("root"), box("other", when_shape(ONE, col_shape(), put_shape("other")))], "other")

    def test_a_long_ring(self):
        names = ["root", "a", "b", "c", "d", "e"]
        rows = [box(name, put_shape(names[(at + 1) % 6])) for at, name in enumerate(names)]
        self.ring(rows, "root")
        self.ring(rows[::-1], "e")
        rows[5] = box("e", put_shape("a"))
        self.ring(rows, "a")

    def test_no_ring_where_ways_meet(self):
        house = House([
            box("root", put_shape("a"), put_shape("b")), box("a", put_shape("c")), box("b", put_shape("c")), leaf("c"),
        ], "root")
        self.assertEqual(house.most, 5)

    def test_ahead_of_an_island_that_asks(self):
        asking = box("other", put_shape("other"), asks=(("a", ONE, "any"),), island=("lost", True))
        self.ring([leaf("root"), asking], "other")


class Islands(unittest.TestCase):
    def wrong(self, *components):
        with self.assertRaises(BadHouse) as caught:
            House(list(components), "root")
        self.assertEqual(caught.exception.part, "island")

    def test_an_island_has_no_asks(self):
        asks = (("a", ONE, "last"),)
        isle = ("takes", True)
        self.wrong(leaf("root"), leaf("other", asks=asks, island=isle))
        self.wrong(leaf("root"), leaf("other", asks=asks), box("isle", put_shape("other"), island=isle))
        self.wrong(
            box("root", put_shape("isle")), box("isle", put_shape("some"), island=isle),
            box("some", each_shape(ONE, ((),), ITEM, "other")), leaf("other", asks=asks),
        )
        House([box("root", put_shape("isle"), asks=asks), leaf("isle", island=isle), leaf("other", asks=asks)], "root")

    def test_ahead_of_too_many(self):
        self.wrong(
            box("root", *[put_shape("leaf", ONE)] * 13, put_shape("other"), cells=(("c", 1, 0),)),
            box("other", *[put_shape("leaf", ONE)] * 13, asks=(("a", ONE, "last"),), island=("lost", False)), LEAF,
        )


class Most(unittest.TestCase):
    def test_one_for_the_root_alone(self):
        self.assertEqual(House([leaf("root"), leaf("other")], "root").most, 1)

    def test_put_each_and_both_parts_of_when(self):
        root = box(
            "root", put_shape("leaf", ONE),
            when_shape(ONE, put_shape("leaf", ONE), row_shape(put_shape("leaf", ONE), put_shape("leaf", ONE))),
            each_shape(ONE, ((1,), (1, 2, 3), ()), ITEM, "leaf", ONE),
        )
        self.assertEqual(House([root, LEAF], "root").most, 1 + 1 + 1 + 2 + 3)

    def test_each_in_each(self):
        root = box("root", each_shape(ONE, ((1, 2), (1, 2, 3)), ITEM, "mid"))
        mid = box("mid", each_shape(ONE, ((4, 5, 6, 7, 8),), ITEM, "leaf", ITEM), put_shape("leaf", ONE))
        self.assertEqual(House([root, mid, LEAF], "root").most, 1 + 3 * (1 + 5 + 1))
        self.assertEqual(House([LEAF, mid, root], "root").most, 1 + 3 * (1 + 5 + 1))

    def test_an_each_of_empty_rows(self):
        self.assertEqual(House([box("root", each_shape(ONE, ((), ()), ITEM, "leaf", ONE)), LEAF], "root").most, 1)

    def test_24_and_25(self):
        fives = [each_shape(ONE, ((1, 2, 3, 4, 5),), ITEM, "leaf", ONE)] * 4
        three = each_shape(ONE, ((1, 2, 3),), ITEM, "leaf", ONE)
        self.assertEqual(House([box("root", *fives, three), LEAF], "root").most, 24)
        with self.assertRaises(TooMany) as caught:
            House([box("root", *fives, three, put_shape("leaf", ONE)), LEAF], "root")
        self.assertEqual(caught.exception.count, 25)

    def test_what_the_root_does_not_reach_is_not_counted(self):
        many = box("many", *[each_shape(ONE, ((1, 2, 3, 4, 5),), ITEM, "leaf", ONE)] * 8)
        self.assertEqual(House([leaf("root"), many, LEAF], "root").most, 1)

    def test_the_greatest_number(self):
        names = ["root", "a", "b", "c", "d", "e"]
        eaches = lambda name: [each_shape(ONE, ((1, 2, 3, 4, 5),), ITEM, name)] * 15
        rows = [box(name, *eaches(names[at + 1])) for at, name in enumerate(names[:5])] + [leaf("e")]
        with self.assertRaises(TooMany) as caught:
            House(rows, "root")
        self.assertEqual(caught.exception.count, sum([75 ** k for k in range(6)]))


class Components(unittest.TestCase):
    def test_by_name(self):
        house = made()
        self.assertIs(house["root"], ROOT)
        self.assertIs(house["leaf"], LEAF)
        for name in ("none", "", 0, None, [], ("root",)):
            with self.subTest(name=name), self.assertRaises(Unknown) as caught:
                house[name]
            self.assertEqual(caught.exception.name, name)

    def test_iterating(self):
        self.assertEqual([component.name for component in made()], ["root", "leaf"])
        self.assertEqual([component.name for component in made(components=[LEAF, ROOT])], ["leaf", "root"])


class Changed(unittest.TestCase):
    def test_these_parts_alone(self):
        house = made()
        other = house.changed(room=1, elder=())
        self.assertEqual((other.room, other.elder), (1, ()))
        self.assertEqual((other.components, other.root, other.far, other.focus), (
            house.components, "root", GOOD["far"], "first"))
        self.assertEqual((house.room, house.elder), (3, GOOD["elder"]))

    def test_components_and_no_parts(self):
        other = made().changed(components=[LEAF, ROOT, leaf("more")])
        self.assertEqual([component.name for component in other], ["leaf", "root", "more"])
        self.assertEqual(list(made().changed()), [ROOT, LEAF])

    def test_wrong_parts(self):
        house = made()
        for part, things in WRONG.items():
            with self.assertRaises(BadHouse) as caught:
                house.changed(**{part: things[-1]})
            self.assertEqual(caught.exception.part, part)
        with self.assertRaises(Unknown):
            house.changed(components=[ROOT])

    def test_replaced(self):
        house = made()
        more = LEAF.changed(cells=(("x", 2, 0),))
        other = house.replaced(more)
        self.assertEqual(list(other), [ROOT, more])
        self.assertEqual(list(house), [ROOT, LEAF])
        self.assertEqual((other.far, other.room, other.focus, other.elder), (
            GOOD["far"], 3, "first", GOOD["elder"]))

    def test_replaced_raises(self):
        with self.assertRaises(Unknown) as caught:
            made().replaced(leaf("none"))
        self.assertEqual(caught.exception.name, "none")
        with self.assertRaises(BadHouse) as caught:
            made().replaced(LEAF.changed(takes=(), looks=()))
        self.assertEqual(caught.exception.part, "forms")
        with self.assertRaises(BadHouse) as caught:
            made().replaced(ROOT.changed(cells=()))
        self.assertEqual(caught.exception.part, "elder")


if __name__ == "__main__":
    unittest.main()
