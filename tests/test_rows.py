import itertools
import unittest

from drawnanew.errors import BadForm, BadRow, NoName
from drawnanew.rows import Key, coarsest, faithful, least_pair, losses, matched, slips
from tests.helpers import dice

ITEM, AT = ("get", "item"), ("get", "at")
BOTH = ("sum", ITEM, AT)
ZERO = ("is", 0)
ODD = ("pick", ("same", ITEM, ("is", 1)), ("is", 1), ("pick", ("same", ITEM, ("is", 3)), ("is", 1), ZERO))
FORMS = [ITEM, AT, BOTH, ZERO, ODD, ("same", ITEM, AT), ("same", AT, ZERO), ("sum", ITEM, ("is", 4))]
BAD_ROWS = [
    [1, 2], (1, 1), (1, 2, 1), (0, 1, 2, 3, 4, 5), (10,), (-1,), (True,), (0, False), ("1",), (None,), ((1,),), 1,
    None, "12", ([],), (1, 2, 10 ** 39), {1: 2},
]


def idents(form, row):
    values = [Key(form)(item, at) for at, item in enumerate(row)]
    return [(value, len([1 for k in range(at) if values[k] == value])) for at, value in enumerate(values)]


def pairs(form, old, new):
    before, behind = idents(form, old), idents(form, new)
    return tuple([(k, n) for n in range(len(new)) for k in range(len(old)) if before[k] == behind[n]])


def slipped(form, old, new):
    return tuple([(old[k], new[n]) for k, n in pairs(form, old, new) if old[k] != new[n]])


def lost(form, old, new):
    there = [(old[k], new[n]) for k, n in pairs(form, old, new)]
    return tuple([item for item in new if item in old and (item, item) not in there])


def rows_of(size, places):
    rows = [row for many in range(places + 1) for row in itertools.permutations(range(size), many)]
    return sorted(rows, key=lambda row: (len(row), row))


def at_most(first, second):
    every = [(item, at) for item in range(10) for at in range(5)]
    values = [(Key(first)(*place), Key(second)(*place)) for place in every]
    return all(a[0] == b[0] for a in values for b in values if a[1] == b[1])


class Keys(unittest.TestCase):
    def test_parts(self):
        for form in FORMS:
            self.assertEqual(Key(form).parts, form)

    def test_value(self):
        self.assertEqual([Key(ITEM)(7, 2), Key(AT)(7, 2), Key(BOTH)(7, 4), Key(ZERO)(7, 2)], [7, 2, 1, 0])
        self.assertEqual([Key(ODD)(item, 0) for item in range(5)], [0, 1, 0, 1, 0])

    def test_bad_form(self):
        deep = ITEM
        for _ in range(5):
            deep = ("sum", deep, AT)
        cases = [
            (("is", 10), ("is", 10)), (("sum", ITEM), ("sum", ITEM)), (deep, deep), (["get", "item"],) * 2,
            (("sum", ("get", "row"), ("is", True)), ("is", True)),
        ]
        for form, part in cases:
            with self.assertRaises(BadForm) as caught:
                Key(form)
            self.assertEqual(caught.exception.part, part)

    def test_no_name(self):
        cases = [
            (("get", "row"), "row"), (("sum", ITEM, ("sum", ("get", "b"), ("get", "a"))), "b"),
            (("pick", ("is", 1), AT, ("get", "items")), "items"),
        ]
        for form, name in cases:
            with self.assertRaises(NoName) as caught:
                Key(form)
            self.assertEqual(caught.exception.name, name)

    def test_idents(self):
        self.assertEqual(Key(ITEM).idents((4, 2, 0)), ((4, 0), (2, 0), (0, 0)))
        self.assertEqual(Key(AT).idents((4, 2, 0)), ((0, 0), (1, 0), (2, 0)))
        self.assertEqual(Key(ZERO).idents((4, 2, 0)), ((0, 0), (0, 1), (0, 2)))
        self.assertEqual(Key(ODD).idents((3, 2, 1, 0)), ((1, 0), (0, 0), (1, 1), (0, 1)))
        self.assertEqual(Key(ODD).idents(()), ())
        self.assertEqual(len(Key(BOTH).idents((9, 8, 7, 6, 5))), 5)

    def test_bad_row(self):
        for row in BAD_ROWS:
            with self.subTest(row):
                with self.assertRaises(BadRow) as caught:
                    Key(ITEM).idents(row)
                self.assertIs(caught.exception.row, row)

    def test_at_most(self):
        for first, second in itertools.product(FORMS, repeat=2):
            with self.subTest(first=first, second=second):
                self.assertIs(Key(first) <= Key(second), at_most(first, second))

    def test_at_most_told(self):
        self.assertTrue(Key(ZERO) <= Key(ITEM))
        self.assertFalse(Key(ITEM) <= Key(ZERO))
        self.assertTrue(Key(ODD) <= Key(ITEM))
        self.assertFalse(Key(AT) <= Key(ITEM) or Key(ITEM) <= Key(AT))
        self.assertTrue(Key(("sum", ITEM, ("is", 4))) <= Key(ITEM) and Key(ITEM) <= Key(("sum", ITEM, ("is", 4))))

    def test_at_most_looks_at_all_items_and_places(self):
        last_item = ("same", ITEM, ("is", 9))
        last_place = ("same", AT, ("is", 4))
        beyond = ("same", AT, ("is", 5))
        self.assertFalse(Key(last_item) <= Key(ZERO))
        self.assertFalse(Key(last_place) <= Key(ZERO))
        self.assertTrue(Key(beyond) <= Key(ZERO))


class Matches(unittest.TestCase):
    def test_document(self):
        self.assertEqual(slips(Key(AT), (1, 2), (2, 1)), ((1, 2), (2, 1)))

    def test_matched(self):
        self.assertEqual(matched(Key(ITEM), (1, 2, 3), (3, 0, 1)), ((2, 0), (0, 2)))
        self.assertEqual(matched(Key(AT), (1, 2, 3), (3, 0)), ((0, 0), (1, 1)))
        self.assertEqual(matched(Key(ITEM), (), (1,)), ())
        self.assertEqual(matched(Key(ODD), (1, 2, 3), (3, 1)), ((0, 0), (2, 1)))

    def test_slips(self):
        self.assertEqual(slips(Key(ITEM), (1, 2, 3), (3, 0, 1)), ())
        self.assertEqual(slips(Key(ODD), (1, 2, 3), (3, 1)), ((1, 3), (3, 1)))
        self.assertEqual(slips(Key(AT), (1, 2), (1, 3, 2)), ((2, 3),))

    def test_losses(self):
        self.assertEqual(losses(Key(ITEM), (1, 2, 3), (3, 0, 1)), ())
        self.assertEqual(losses(Key(AT), (1, 2), (2, 1)), (2, 1))
        self.assertEqual(losses(Key(AT), (1, 2), (1, 3, 2)), (2,))
        self.assertEqual(losses(Key(BOTH), (1, 2), (2, 1)), (2, 1))

    def test_lost_without_a_slip(self):
        self.assertEqual(losses(Key(BOTH), (3,), (8, 3)), (3,))
        self.assertEqual(slips(Key(BOTH), (3,), (8, 3)), ())

    def test_bad_row(self):
        for ask in (matched, slips, losses):
            for row in BAD_ROWS:
                for old, new in ((row, (1,)), ((1,), row), (row, [9])):
                    with self.assertRaises(BadRow) as caught:
                        ask(Key(AT), old, new)
                    self.assertIs(caught.exception.row, row)

    def test_at_random(self):
        chance = dice(31)
        for _ in range(500):
            form = chance.choice(FORMS)
            old, new = [tuple(chance.sample(range(10), chance.randrange(6))) for _ in range(2)]
            if chance.randrange(2):
                new = tuple(chance.sample(old, len(old)))
            self.assertEqual(matched(Key(form), old, new), pairs(form, old, new))
            self.assertEqual(slips(Key(form), old, new), slipped(form, old, new))
            self.assertEqual(losses(Key(form), old, new), lost(form, old, new))


class Faithful(unittest.TestCase):
    def test_none(self):
        menu = ((1, 2), (2, 1), (3,), ())
        self.assertIsNone(faithful(Key(ITEM), menu))
        self.assertIsNone(faithful(Key(AT), ((1, 2), (1,), (1, 2, 3))))
        self.assertIsNone(faithful(Key(ZERO), ((1, 2, 3),)))
        self.assertIsNone(faithful(Key(ZERO), ((1, 2), (1, 2))))

    def test_first_pair(self):
        menu = ((1,), (1, 2), (2, 1))
        self.assertEqual(faithful(Key(AT), menu), ((1,), (2, 1)))
        self.assertEqual(faithful(Key(AT), ((1,), (1, 2), (1, 3))), ((1, 2), (1, 3)))

    def test_slip_and_loss_alone(self):
        self.assertEqual(faithful(Key(AT), ((1,), (2,))), ((1,), (2,)))
        self.assertEqual(faithful(Key(BOTH), ((3,), (8, 3))), ((3,), (8, 3)))

    def test_at_random(self):
        chance = dice(37)
        for _ in range(200):
            form = chance.choice(FORMS)
            menu = tuple([tuple(chance.sample(range(4), chance.randrange(4))) for _ in range(chance.randrange(1, 5))])
            told = [(a, b) for a in menu for b in menu if slipped(form, a, b) or lost(form, a, b)]
            self.assertEqual(faithful(Key(form), menu), told[0] if told else None)

    def test_bad_row(self):
        for row in BAD_ROWS:
            for menu in ((row,), ((1, 2), (2, 1), row), ((1,), row, [0])):
                for ask in (lambda: faithful(Key(AT), menu), lambda: coarsest([Key(AT)], menu),
                            lambda: coarsest([], menu)):
                    with self.assertRaises(BadRow) as caught:
                        ask()
                    self.assertIs(caught.exception.row, row)


class LeastPair(unittest.TestCase):
    def told(self, form, size, places):
        rows = rows_of(size, places)
        every = [(a, b) for a in rows for b in rows if slipped(form, a, b) or lost(form, a, b)]
        key = {pair: (len(pair[0]) + len(pair[1]), rows.index(pair[0]), rows.index(pair[1])) for pair in every}
        return min(every, key=key.get) if every else None

    def test_documented_order(self):
        self.assertEqual(least_pair(Key(AT), 4, 4), ((0,), (1,)))
        self.assertEqual(least_pair(Key(ZERO), 3, 1), ((0,), (1,)))
        self.assertEqual(least_pair(Key(BOTH), 4, 4), ((0,), (1, 0)))
        self.assertEqual(least_pair(Key(BOTH), 4, 1), None)

    def test_none(self):
        for size, places in itertools.product(range(1, 5), repeat=2):
            self.assertIsNone(least_pair(Key(ITEM), size, places))
        for form in FORMS:
            self.assertIsNone(least_pair(Key(form), 1, 4))

    def test_all_small_ones(self):
        for form in FORMS:
            for size, places in itertools.product(range(1, 4), range(1, 5)):
                with self.subTest(form=form, size=size, places=places):
                    self.assertEqual(least_pair(Key(form), size, places), self.told(form, size, places))

    def test_a_pair_far_on(self):
        # Only items 2 and 3 are taken for one another.
        form = ("pick", ("same", ITEM, ("is", 3)), ("is", 2), ITEM)
        self.assertEqual(least_pair(Key(form), 4, 4), ((2,), (3,)))
        self.assertEqual(least_pair(Key(form), 3, 4), None)
        # Only the third place is told apart from the others.
        late = ("pick", ("same", AT, ("is", 2)), ("is", 9), ITEM)
        self.assertEqual(least_pair(Key(late), 3, 3), self.told(late, 3, 3))
        self.assertEqual(least_pair(Key(late), 3, 2), None)


class Coarsest(unittest.TestCase):
    def told(self, forms, menu):
        good = [place for place, form in enumerate(forms) if faithful(Key(form), menu) is None]
        return [
            place for place in good
            if not [k for k in good if at_most(forms[k], forms[place]) and not at_most(forms[place], forms[k])]
        ]

    def test_lists(self):
        keys = [Key(form) for form in (ITEM, ZERO, ODD, AT)]
        self.assertEqual(coarsest(keys, ((1, 2), (2, 1))), [2])
        self.assertEqual(coarsest(keys, ((1,), (1, 2))), [1])
        self.assertEqual(coarsest(keys, ((1, 2), (3,))), [0])
        self.assertEqual(coarsest(keys[1:], ((1, 2), (3,))), [])
        self.assertEqual(coarsest([], ((1, 2),)), [])

    def test_keys_at_most_one_another(self):
        same = Key(("sum", ITEM, ("is", 4)))
        self.assertEqual(coarsest([Key(ITEM), same, Key(ITEM)], ((1, 2), (2, 3))), [0, 1, 2])

    def test_keys_that_are_not_to_be_compared(self):
        self.assertEqual(coarsest([Key(ITEM), Key(AT)], ((1, 2), (1,))), [0, 1])

    def test_a_coarser_key_that_is_not_faithful(self):
        self.assertEqual(coarsest([Key(ZERO), Key(ITEM)], ((1, 2), (2, 1))), [1])

    def test_arguments_stay(self):
        keys = [Key(ITEM), Key(ZERO)]
        kept = list(keys)
        coarsest(keys, ((1,), (1, 2)))
        self.assertEqual([key.parts for key in keys], [key.parts for key in kept])

    def test_at_random(self):
        chance = dice(41)
        for _ in range(100):
            forms = [chance.choice(FORMS) for _ in range(chance.randrange(1, 7))]
            first = tuple(chance.sample(range(4), 3))
            menu = (first, chance.choice([first[:2], first[::-1], tuple(chance.sample(range(5), 2))]))
            self.assertEqual(coarsest([Key(form) for form in forms], menu), self.told(forms, menu))


if __name__ == "__main__":
    unittest.main()
