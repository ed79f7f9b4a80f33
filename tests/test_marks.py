import unittest

from drawnanew.components import Component
from drawnanew.errors import NoMark
from drawnanew.houses import House
from drawnanew.marks import all_marks, mended, weak_marks
from drawnanew.shapes import col_shape, each_shape, put_shape, row_shape, text_shape, when_shape
from tests.helpers import dice, fix, get, house_told, parts_of
from tests.making import random_house

ITEM = ("get", "item")
AT = ("get", "at")
FORM = ("pick", get("d"), ("sum", get("c"), get("d")), get("c"))

LEAF = Component("leaf", col_shape(text_shape(get("t"))), takes=(("t", 2),), looks=())
ISLE = Component(
    "isle", col_shape(put_shape("leaf", get("u"))), takes=(("u", 2), ("v", 3)), hears=(("g", 2, 0), ("h", 2, 1)),
    looks=("h", "u"), island=("lost", True),
)
FIRST = each_shape(fix(0), ((1, 2), (2, 1)), AT, "leaf", ITEM)
SECOND = each_shape(fix(0), ((3, 4),), ITEM, "leaf", ITEM)
THIRD = each_shape(fix(0), ((5,),), ("sum", ITEM, AT), "leaf", AT)
ROOT = Component(
    "root",
    col_shape(text_shape(get("c")), FIRST, when_shape(get("c"), row_shape(SECOND), THIRD),
              put_shape("isle", fix(0), fix(1))),
    cells=(("c", 3, 0), ("d", 2, 0)), asks=(("q", get("c"), "any"), ("r", get("d"), "last")),
    effects=(("one", FORM, ("c",)), ("two", get("c"), ("d", "c"))),
)
HOUSE = House([LEAF, ROOT, ISLE], "root")

MARKS = [
    ("looks", "leaf"),
    ("looks", "root"), ("key", "root", 2), ("key", "root", 5), ("key", "root", 6), ("effect", "root", "one"),
    ("effect", "root", "two"), ("fence", "root", "q"), ("fence", "root", "r"),
    ("looks", "isle"), ("island", "isle"),
]
WEAK = [
    ("looks", "leaf"), ("key", "root", 2), ("key", "root", 6), ("effect", "root", "one"), ("fence", "root", "q"),
    ("looks", "isle"), ("island", "isle"),
]


def with_isle(**parts):
    return HOUSE.replaced(ISLE.changed(**parts))


def with_root(**parts):
    return HOUSE.replaced(ROOT.changed(**parts))


def effect(names, form=FORM):
    return with_root(effects=(("one", form, names),))


class AllMarks(unittest.TestCase):
    def test_by_component_in_the_order_of_the_house(self):
        self.assertEqual(all_marks(HOUSE), MARKS)
        self.assertEqual(all_marks(House([ROOT, ISLE, LEAF], "root")), MARKS[1:] + MARKS[:1])

    def test_a_component_with_nothing_has_its_looks(self):
        self.assertEqual(all_marks(House([Component("root", col_shape())], "root")), [("looks", "root")])

    def test_the_list_belongs_to_the_caller(self):
        all_marks(HOUSE).clear()
        weak_marks(HOUSE).clear()
        self.assertEqual((all_marks(HOUSE), weak_marks(HOUSE)), (MARKS, WEAK))


class WeakMarks(unittest.TestCase):
    def test_in_order(self):
        self.assertEqual(weak_marks(HOUSE), WEAK)

    def weak(self, house, mark):
        return mark in weak_marks(house)

    def test_looks(self):
        for looks, weak in [
            (("u", "v", "g", "h"), False), (("h", "g", "v", "u"), False), (("v", "u", "h", "g"), False), (None, False),
            ((), True), (("u", "v", "g"), True), (("v", "g", "h"), True), (("g", "h"), True),
        ]:
            with self.subTest(looks):
                self.assertEqual(self.weak(with_isle(looks=looks), ("looks", "isle")), weak)

    def test_key(self):
        for key in [ITEM, AT, fix(1), ("sum", ITEM, fix(0)), ("pick", fix(1), ITEM, AT)]:
            with self.subTest(key):
                shape = col_shape(each_shape(fix(0), ((1, 2),), key, "leaf", ITEM))
                self.assertEqual(self.weak(with_root(shape=shape), ("key", "root", 1)), key != ITEM)

    def test_effect(self):
        for names, weak in [
            (("d", "c"), False), (("c", "d"), False), (("q", "c", "r", "d"), False),
            (("c",), True), (("d",), True), ((), True), (("c", "q", "r"), True),
        ]:
            with self.subTest(names):
                self.assertEqual(self.weak(effect(names), ("effect", "root", "one")), weak)

    def test_a_name_that_the_form_reads_but_does_not_need_is_still_asked_for(self):
        form = ("pick", fix(0), get("c"), get("d"))
        self.assertTrue(self.weak(effect(("d",), form), ("effect", "root", "one")))
        self.assertFalse(self.weak(effect((), fix(3)), ("effect", "root", "one")))

    def test_fence(self):
        for fence in ("any", "own", "same", "both", "last"):
            with self.subTest(fence):
                house = with_root(asks=(("q", get("c"), fence), ("r", get("d"), "own")))
                self.assertEqual(self.weak(house, ("fence", "root", "q")), fence != "last")
                self.assertTrue(self.weak(house, ("fence", "root", "r")))

    def test_island(self):
        for press in ("lost", "kept", "takes"):
            for check in (True, False):
                with self.subTest(press=press, check=check):
                    house = with_isle(island=(press, check))
                    self.assertEqual(self.weak(house, ("island", "isle")), (press, check) != ("takes", True))
        self.assertNotIn(("island", "isle"), all_marks(with_isle(island=None)))


class Mended(unittest.TestCase):
    def one(self, house, mark, name, **parts):
        """Mending this mark changes these parts of this component and nothing else."""
        before = house_told(house)
        told = house_told(mended(house, mark))
        self.assertEqual(house_told(house), before)
        for at, component in enumerate(before["components"]):
            if component["name"] == name:
                before["components"][at] = {**component, **parts}
        self.assertEqual(told, before)

    def test_each_kind(self):
        self.one(HOUSE, ("looks", "leaf"), "leaf", looks=("t",))
        self.one(HOUSE, ("looks", "isle"), "isle", looks=("u", "v", "g", "h"))
        parts = ROOT.shape[1]
        first = (("each",) + FIRST[1:3] + (ITEM,) + FIRST[4:],)
        self.one(HOUSE, ("key", "root", 2), "root", shape=("col", parts[:1] + first + parts[2:]))
        third = ("each",) + THIRD[1:3] + (ITEM,) + THIRD[4:]
        when = (("when", get("c"), ("row", (SECOND,)), third),)
        self.one(HOUSE, ("key", "root", 6), "root", shape=("col", parts[:2] + when + parts[3:]))
        effects = (("one", FORM, ("d", "c")),) + ROOT.effects[1:]
        self.one(HOUSE, ("effect", "root", "one"), "root", effects=effects)
        self.one(HOUSE, ("fence", "root", "q"), "root", asks=(("q", get("c"), "last"), ("r", get("d"), "last")))
        self.one(HOUSE, ("island", "isle"), "isle", island=("takes", True))

    def test_what_is_full_already_is_put_in_its_order(self):
        self.one(HOUSE, ("looks", "root"), "root")
        self.one(HOUSE, ("key", "root", 5), "root")
        self.one(HOUSE, ("fence", "root", "r"), "root")
        self.one(with_isle(looks=("h", "g", "v", "u")), ("looks", "isle"), "isle", looks=("u", "v", "g", "h"))
        self.one(effect(("c", "q", "d")), ("effect", "root", "one"), "root", effects=(("one", FORM, ("d", "c")),))
        self.one(effect(("c",), fix(1)), ("effect", "root", "one"), "root", effects=(("one", fix(1), ()),))
        self.one(with_isle(island=("takes", True)), ("island", "isle"), "isle")

    def test_several_in_any_order_and_twice(self):
        marks = [("fence", "root", "q"), ("looks", "leaf"), ("key", "root", 6), ("fence", "root", "q")]
        house = mended(HOUSE, *marks)
        self.assertEqual(weak_marks(house), [mark for mark in WEAK if mark not in marks])
        self.assertEqual(all_marks(house), MARKS)
        self.assertEqual(weak_marks(HOUSE), WEAK)

    def test_all_and_none(self):
        self.assertEqual(weak_marks(mended(HOUSE, *MARKS)), [])
        self.assertEqual(weak_marks(mended(HOUSE, *WEAK)), [])
        self.assertEqual(house_told(mended(HOUSE)), house_told(HOUSE))
        self.assertIsInstance(mended(HOUSE), House)

    def test_the_rest_of_the_house_stays(self):
        house = HOUSE.changed(far=((3, 3, 3, 3), (1, 1, 1, 1)), room=3, focus="none", elder=(("c", 2),))
        told = house_told(mended(house, *WEAK))
        self.assertEqual({**told, "components": None}, {**house_told(house), "components": None})

    def test_no_mark(self):
        for mark in [
            ("looks", "none"), ("key", "root", 1), ("key", "root", 3), ("key", "leaf", 2), ("effect", "root", "four"),
            ("fence", "root", "c"), ("island", "leaf"), ("island", "root"), ("looks",), (), ("looks", "leaf", 0), None,
            "looks", ["looks", "leaf"], ("Looks", "leaf"), ("key", "root", "2"), ("effect", "one"),
        ]:
            with self.subTest(mark), self.assertRaises(NoMark) as caught:
                mended(HOUSE, mark)
            self.assertEqual(caught.exception.mark, mark)

    def test_true_is_no_number_of_a_shape(self):
        house = with_root(shape=col_shape(FIRST))
        self.assertIn(("key", "root", 1), all_marks(house))
        with self.assertRaises(NoMark) as caught:
            mended(house, ("key", "root", True))
        self.assertIs(caught.exception.mark[2], True)

    def test_the_first_one_that_is_not_there(self):
        with self.assertRaises(NoMark) as caught:
            mended(HOUSE, ("looks", "leaf"), ("island", "root"), ("fence", "root", "q"), ("looks", "none"))
        self.assertEqual(caught.exception.mark, ("island", "root"))


class Seeds(unittest.TestCase):
    def test_each_mark_is_weak_until_it_is_mended(self):
        many = 0
        for seed in range(150):
            house = random_house(dice(300 + seed), False, islands=seed % 2 == 0)
            before = house_told(house)
            weak = weak_marks(house)
            self.assertEqual(weak, [mark for mark in all_marks(house) if mark in weak])
            for mark in all_marks(house):
                rest = [told for told in weak if told != mark]
                self.assertEqual(weak_marks(mended(house, mark)), rest)
                many += mark in weak
            self.assertEqual(house_told(house), before)
        self.assertGreater(many, 150)

    def test_full_houses_have_no_weak_marks(self):
        for seed in range(60):
            house = random_house(dice(seed), True, islands=seed % 3 == 0)
            self.assertEqual(weak_marks(house), [])
            twin = mended(house, *all_marks(house))
            for component in house:
                told = parts_of(twin[component.name])
                self.assertEqual({**told, "effects": None}, {**parts_of(component), "effects": None})


if __name__ == "__main__":
    unittest.main()
