import itertools
import unittest

from drawnanew.errors import BadRow, NoItem
from drawnanew.rows import Key
from drawnanew.things import Known, Things, least_parting
from tests.helpers import dice
from tests.test_rows import AT, BAD_ROWS, BOTH, FORMS, ITEM, ODD, ZERO, idents


def numbers(shown):
    return [shown[item] for item in shown]


class Both(unittest.TestCase):
    """What Known, by the key of the item, and Things have in common."""

    def made(self, row):
        return [Known(Key(ITEM), row), Things(row), Known(Key(AT), row), Known(Key(ZERO), row)]

    def test_new(self):
        for shown in self.made((4, 2, 0)):
            self.assertEqual((shown.row, list(shown), numbers(shown)), ((4, 2, 0), [4, 2, 0], [0, 0, 0]))

    def test_set(self):
        for shown in self.made((4, 2, 0)):
            shown[2] = 5
            shown[0] = 7
            shown[2] = 6
            self.assertEqual(numbers(shown), [0, 6, 7])
            shown[2] += 1
            self.assertEqual(shown[2], 7)

    def test_no_item(self):
        for shown in self.made((4, 1, 0)):
            for item in (2, -1, 10, 10 ** 39, True, False):
                with self.assertRaises(NoItem) as caught:
                    shown[item]
                self.assertIs(caught.exception.item, item)
                with self.assertRaises(NoItem) as caught:
                    shown[item] = 3
                self.assertIs(caught.exception.item, item)
            self.assertEqual(numbers(shown), [0, 0, 0])

    def test_empty_row(self):
        for shown in self.made(()):
            self.assertEqual((shown.row, list(shown)), ((), []))
            with self.assertRaises(NoItem):
                shown[0]

    def test_same_row_again(self):
        for shown in self.made((3, 1)):
            shown[3], shown[1] = 5, 6
            self.assertIsNone(shown.show((3, 1)))
            self.assertEqual(numbers(shown), [5, 6])

    def test_bad_row(self):
        for row in BAD_ROWS:
            for make in (lambda: Known(Key(ITEM), row), lambda: Things(row)):
                with self.assertRaises(BadRow) as caught:
                    make()
                self.assertIs(caught.exception.row, row)

    def test_bad_row_changes_nothing(self):
        for shown in self.made((3, 1)):
            shown[1] = 6
            for row in BAD_ROWS:
                with self.assertRaises(BadRow) as caught:
                    shown.show(row)
                self.assertIs(caught.exception.row, row)
                self.assertEqual((shown.row, numbers(shown)), ((3, 1), [0, 6]))

    def test_gone_items_begin_anew(self):
        for shown in self.made((3, 1)):
            shown[3], shown[1] = 5, 6
            shown.show(())
            shown.show((3, 1))
            self.assertEqual(numbers(shown), [0, 0])


class Numbers(unittest.TestCase):
    def shown(self, shown, row):
        for at, item in enumerate(shown):
            shown[item] = at + 1
        shown.show(row)
        return dict(zip(shown, numbers(shown)))

    def test_things(self):
        self.assertEqual(self.shown(Things((4, 2, 0)), (0, 3, 4)), {0: 3, 3: 0, 4: 1})

    def test_known_by_item(self):
        self.assertEqual(self.shown(Known(Key(ITEM), (4, 2, 0)), (0, 3, 4)), {0: 3, 3: 0, 4: 1})

    def test_known_by_place(self):
        self.assertEqual(self.shown(Known(Key(AT), (4, 2, 0)), (0, 3, 4, 1)), {0: 1, 3: 2, 4: 3, 1: 0})

    def test_known_by_count(self):
        self.assertEqual(self.shown(Known(Key(ZERO), (4, 2, 0)), (0, 3)), {0: 1, 3: 2})
        self.assertEqual(self.shown(Known(Key(ODD), (1, 2, 3)), (2, 3, 4)), {2: 2, 3: 1, 4: 0})

    def test_known_by_item_and_place(self):
        self.assertEqual(self.shown(Known(Key(BOTH), (3, 4)), (9, 2, 3)), {9: 0, 2: 1, 3: 2})

    def test_rows_one_after_the_other(self):
        known = Known(Key(AT), (1, 2))
        known[2] = 8
        known.show((5, 6, 7))
        self.assertEqual((known.row, list(known), numbers(known)), ((5, 6, 7), [5, 6, 7], [0, 8, 0]))
        known.show((9,))
        known.show((9, 8))
        self.assertEqual(numbers(known), [0, 0])

    def test_at_random(self):
        chance = dice(43)
        for _ in range(200):
            form = chance.choice(FORMS)
            row = tuple(chance.sample(range(6), chance.randrange(6)))
            known, told = Known(Key(form), row), {ident: 0 for ident in idents(form, row)}
            for number in range(1, 9):
                if row and chance.randrange(2):
                    at = chance.randrange(len(row))
                    known[row[at]] = number
                    told[idents(form, row)[at]] = number
                else:
                    row = tuple(chance.sample(range(6), chance.randrange(6)))
                    known.show(row)
                    told = {ident: told.get(ident, 0) for ident in idents(form, row)}
                self.assertEqual(numbers(known), [told[ident] for ident in idents(form, row)])


class LeastParting(unittest.TestCase):
    def told(self, form, menu):
        for old, new in itertools.product(menu, repeat=2):
            for item in old:
                ident = idents(form, old)[old.index(item)]
                known = [int(other == ident) for other in idents(form, new)]
                if known != [int(other == item) for other in new]:
                    return (old, item, new)
        return None

    def test_none(self):
        self.assertIsNone(least_parting(Key(ITEM), ((1, 2), (2, 1), (), (3,))))
        self.assertIsNone(least_parting(Key(AT), ((1, 2), (1,))))
        self.assertIsNone(least_parting(Key(ZERO), ((1, 2),)))

    def test_first_triple(self):
        self.assertEqual(least_parting(Key(AT), ((1, 2), (1,), (2, 1))), ((1, 2), 1, (2, 1)))
        self.assertEqual(least_parting(Key(AT), ((1,), (1, 2), (1, 3))), ((1, 2), 2, (1, 3)))
        self.assertEqual(least_parting(Key(ZERO), ((5,), (6,))), ((5,), 5, (6,)))

    def test_rows_come_ahead_of_items(self):
        menu = ((1, 2, 3), (1, 3), (2,))
        # By the row (1, 3) the item 2 parts, by the row behind it the item 1 does.
        self.assertEqual(least_parting(Key(AT), menu), ((1, 2, 3), 2, (1, 3)))

    def test_lost_item_alone(self):
        self.assertEqual(least_parting(Key(BOTH), ((3,), (8, 3))), ((3,), 3, (8, 3)))

    def test_bad_row(self):
        for row in BAD_ROWS:
            for menu in ((row,), ((1, 2), (2, 1), row), ((1,), row, [0])):
                with self.assertRaises(BadRow) as caught:
                    least_parting(Key(AT), menu)
                self.assertIs(caught.exception.row, row)

    def test_at_random(self):
        chance = dice(47)
        for _ in range(300):
            form = chance.choice(FORMS)
            menu = tuple([tuple(chance.sample(range(4), chance.randrange(4))) for _ in range(chance.randrange(1, 5))])
            self.assertEqual(least_parting(Key(form), menu), self.told(form, menu))


if __name__ == "__main__":
    unittest.main()
