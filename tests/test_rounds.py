import unittest

from drawnanew.components import Component
from drawnanew.errors import NoInstance, NoName, NotDue
from drawnanew.houses import House
from drawnanew.rounds import Rounds, drawing_orders
from drawnanew.sessions import Session
from drawnanew.shapes import button_shape, col_shape, each_shape, put_shape, text_shape, when_shape
from tests.helpers import deed, dice, fix, get, plus
from tests.making import random_house

ITEM = get("item")
MID, LOW = ((1,),), ((1,), (1,))


def chain_house(mid_looks=None, low_looks=None):
    """A root, a child and a grandchild; each hands down its cell or what it takes."""
    low = Component("low", col_shape(text_shape(get("t"))), takes=(("t", 4),), cells=(("c", 2, 0),), looks=low_looks)
    mid = Component("mid", col_shape(put_shape("low", get("t"))), takes=(("t", 4),), cells=(("c", 2, 0),), looks=mid_looks)
    root = Component("root", col_shape(put_shape("mid", get("c"))), cells=(("c", 4, 0),))
    return House([root, mid, low], "root")


def aside_house(**parts):
    """A root that draws the row of items that its cell tells; each item has a cell and a leaf of its own."""
    low = Component("low", col_shape(text_shape(get("h"))), hears=(("h", 4, 0),), cells=(("c", 4, 0),))
    item = Component("item", col_shape(text_shape(get("c")), text_shape(get("i")), put_shape("low")), takes=(("i", 4),),
                     cells=(("c", 4, 0),))
    root = Component("root", col_shape(each_shape(get("row"), ((1, 2), (2,), (2, 3, 1)), ITEM, "item", get("n"))),
                     cells=(("row", 3, 0), ("n", 4, 0)), gives=(("h", 4, get("n")),))
    return House([root, item.changed(**parts), low], "root")


def texts(shown):
    found = [shown[0][5:]] if shown[0].startswith("text") else []
    return "".join(found + [texts(child) for child in shown[1]])


class Starting(unittest.TestCase):
    def test_all_is_drawn(self):
        rounds = Rounds(chain_house())
        self.assertEqual(rounds.instances(), [((), "root"), (MID, "mid"), (LOW, "low")])
        self.assertEqual(rounds.shown, ("col", (("col", (("col", (("text 0", ()),)),)),)))
        self.assertEqual((rounds.due(), rounds.settle()), ([], []))
        self.assertEqual(list(drawing_orders(rounds)), [()])

    def test_nothing_is_asked_and_no_island_is_frozen(self):
        isle = Component("isle", col_shape(text_shape(get("t"))), takes=(("t", 4),), island=("lost", False))
        root = Component("root", col_shape(text_shape(get("a")), put_shape("isle", get("c"))), cells=(("c", 4, 1),),
                         asks=(("a", fix(2), "any"),), effects=(("e", fix(1), ()),))
        rounds = Rounds(House([root, isle], "root", elder=(("c", 3),)))
        self.assertEqual(texts(rounds.shown), "01")
        rounds.set_cell((), "c", 2)
        self.assertEqual((rounds.settle(), texts(rounds.shown)), ([(), ((2,),)], "02"))


class Setting(unittest.TestCase):
    def test_modulo_the_size(self):
        rounds = Rounds(chain_house())
        for value, found in ((4, []), (8, []), (7, [()]), (-1, [()]), (0, [])):
            rounds.set_cell((), "c", value)
            self.assertEqual(rounds.due(), found)
        rounds.set_cell(LOW, "c", 3)
        rounds.set_cell((), "c", 10 ** 39 + 1)
        self.assertEqual(rounds.due(), [(), LOW])
        self.assertEqual(texts(rounds.shown), "0")

    def test_wrong_places_and_cells(self):
        rounds = Rounds(chain_house())
        for place in (((2,),), ((1,), (1,), (1,)), None, [], ((True,),), "", ((1, 0),)):
            with self.subTest(place=place), self.assertRaises(NoInstance) as caught:
                rounds.set_cell(place, "none", 1)
            self.assertEqual(caught.exception.place, place)
        for place, cell in ((MID, "t"), (MID, "none"), ((), ""), ((), None), ((), ["c"]), ((), 0)):
            with self.subTest(cell=cell), self.assertRaises(NoName) as caught:
                rounds.set_cell(place, cell, 1)
            self.assertEqual(caught.exception.name, cell)
        self.assertEqual(rounds.due(), [])


class Drawing(unittest.TestCase):
    def test_one_by_one(self):
        rounds = Rounds(chain_house())
        rounds.set_cell((), "c", 1)
        rounds.set_cell(LOW, "c", 1)
        self.assertEqual(rounds.due(), [(), LOW])
        rounds.draw(())
        self.assertEqual((rounds.due(), texts(rounds.shown)), ([MID, LOW], "0"))
        rounds.draw(LOW)
        self.assertEqual((rounds.due(), texts(rounds.shown)), ([MID], "0"))
        rounds.draw(MID)
        self.assertEqual((rounds.due(), texts(rounds.shown)), ([LOW], "0"))
        rounds.draw(LOW)
        self.assertEqual((rounds.due(), texts(rounds.shown)), ([], "1"))

    def test_what_does_not_look_is_not_due(self):
        rounds = Rounds(chain_house(mid_looks=()))
        rounds.set_cell((), "c", 1)
        rounds.draw(())
        self.assertEqual((rounds.due(), texts(rounds.shown)), ([], "0"))
        rounds.set_cell(MID, "c", 1)
        self.assertEqual((rounds.settle(), texts(rounds.shown)), ([MID, LOW], "1"))

    def test_no_instance_and_not_due(self):
        rounds = Rounds(chain_house())
        rounds.set_cell((), "c", 1)
        for place in (((2,),), None, [], ((True,),), ((1,), (2,))):
            with self.subTest(place=place), self.assertRaises(NoInstance) as caught:
                rounds.draw(place)
            self.assertEqual(caught.exception.place, place)
        for place in (MID, LOW):
            with self.assertRaises(NotDue) as caught:
                rounds.draw(place)
            self.assertEqual(caught.exception.place, place)
        self.assertEqual(rounds.due(), [()])

    def test_children_that_are_made_are_drawn_with_it(self):
        rounds = Rounds(aside_house())
        rounds.set_cell((), "row", 2)
        rounds.draw(())
        self.assertEqual([place for place, _ in rounds.instances()], [
            (), ((1, 2),), ((1, 2), (3,)), ((1, 3),), ((1, 3), (3,)), ((1, 1),), ((1, 1), (3,))])
        self.assertEqual((rounds.due(), texts(rounds.shown)), ([], "000000000"))

    def test_settle_tells_what_is_drawn_again(self):
        rounds = Rounds(aside_house())
        rounds.set_cell((), "row", 2)
        rounds.set_cell((), "n", 3)
        self.assertEqual(rounds.settle(), [(), ((1, 2),), ((1, 2), (3,)), ((1, 1),), ((1, 1), (3,))])
        self.assertEqual(rounds.settle(), [])
        self.assertEqual(texts(rounds.shown), "033033033")

    def test_settle_draws_as_a_round_does(self):
        house = chain_house()
        root = house["root"].changed(
            shape=col_shape(put_shape("mid", get("c")), button_shape("more")), deeds=(deed("more", "c", plus("c")),))
        session = Session(house.replaced(root))
        rounds = Rounds(house.replaced(root))
        for value in (1, 2, 3, 0):
            rounds.set_cell((), "c", value)
            self.assertEqual(rounds.settle(), session.do(("press", (), "more")).drawn)
            self.assertEqual(rounds.shown, session.page.shown)


class Aside(unittest.TestCase):
    def test_a_child_set_aside_comes_back_as_it_was(self):
        rounds = Rounds(aside_house())
        rounds.set_cell(((1, 1),), "c", 3)
        rounds.settle()
        rounds.set_cell(((1, 1), (3,)), "c", 2)
        rounds.set_cell(((1, 2),), "c", 1)
        rounds.set_cell((), "row", 1)
        rounds.draw(())
        self.assertEqual([place for place, _ in rounds.instances()], [(), ((1, 2),), ((1, 2), (3,))])
        self.assertEqual(rounds.due(), [((1, 2),)])
        rounds.set_cell((), "row", 0)
        self.assertEqual(rounds.due(), [(), ((1, 2),)])
        rounds.draw(())
        self.assertEqual(rounds.due(), [((1, 1), (3,)), ((1, 2),)])
        self.assertEqual(texts(rounds.shown), "300000")

    def test_it_gets_its_place_and_what_it_is_given_as_they_are_now(self):
        house = aside_house()
        root = house["root"].changed(shape=col_shape(each_shape(
            get("row"), ((1, 2), (2,), (3, 4)), get("at"), "item", get("n"))))
        rounds = Rounds(house.replaced(root))
        rounds.set_cell(((1, 2),), "c", 3)
        rounds.settle()
        rounds.set_cell(((1, 1),), "c", 1)
        rounds.set_cell((), "row", 1)
        rounds.draw(())
        self.assertEqual([place for place, _ in rounds.instances()], [(), ((1, 2),), ((1, 2), (3,))])
        rounds.set_cell((), "row", 2)
        rounds.set_cell((), "n", 2)
        rounds.draw(())
        self.assertEqual(rounds.due(), [((1, 3),), ((1, 3), (3,)), ((1, 4),), ((1, 4), (3,))])
        self.assertEqual(texts(rounds.shown), "000300")
        self.assertEqual(rounds.settle(), [((1, 3),), ((1, 3), (3,)), ((1, 4),), ((1, 4), (3,))])
        self.assertEqual(texts(rounds.shown), "122322")

    def gone_house(self):
        leaf = Component("leaf", col_shape(text_shape(get("c"))), cells=(("c", 4, 0),))
        root = Component("root", col_shape(when_shape(get("on"), put_shape("leaf"), col_shape()), put_shape("leaf")),
                         cells=(("on", 2, 1),))
        return House([root, leaf], "root")

    def test_it_is_dropped_when_nothing_must_be_drawn(self):
        for waiting in (False, True):
            rounds = Rounds(self.gone_house())
            rounds.set_cell(((2,),), "c", 3)
            rounds.settle()
            rounds.set_cell((), "on", 0)
            if waiting:
                rounds.set_cell(((4,),), "c", 1)
            rounds.draw(())
            rounds.set_cell((), "on", 1)
            rounds.draw(())
            self.assertEqual(texts(rounds.shown), "30" if waiting else "00")

    def test_also_behind_settle(self):
        rounds = Rounds(self.gone_house())
        rounds.set_cell(((2,),), "c", 3)
        for on in (0, 1):
            rounds.set_cell((), "on", on)
            rounds.settle()
        self.assertEqual(texts(rounds.shown), "00")

    def test_also_when_a_cell_is_set_back(self):
        rounds = Rounds(self.gone_house())
        rounds.set_cell(((2,),), "c", 3)
        rounds.settle()
        rounds.set_cell((), "on", 0)
        rounds.set_cell(((4,),), "c", 1)
        rounds.draw(())
        rounds.set_cell(((4,),), "c", 0)
        self.assertEqual(rounds.due(), [])
        rounds.set_cell((), "on", 1)
        rounds.settle()
        self.assertEqual(texts(rounds.shown), "00")

    def test_what_is_aside_is_no_instance(self):
        rounds = Rounds(self.gone_house())
        rounds.set_cell((), "on", 0)
        rounds.set_cell(((4,),), "c", 1)
        rounds.set_cell(((2,),), "c", 1)
        rounds.draw(())
        self.assertEqual(rounds.due(), [((4,),)])
        for call in (lambda: rounds.draw(((2,),)), lambda: rounds.set_cell(((2,),), "c", 0)):
            with self.assertRaises(NoInstance):
                call()


class Copies(unittest.TestCase):
    def test_a_copy_goes_its_own_way(self):
        rounds = Rounds(chain_house())
        rounds.set_cell((), "c", 1)
        twin = rounds.copy()
        self.assertIsInstance(twin, Rounds)
        self.assertEqual((twin.due(), twin.shown, twin.instances()), (rounds.due(), rounds.shown, rounds.instances()))
        twin.settle()
        twin.set_cell(LOW, "c", 1)
        self.assertEqual((rounds.due(), texts(rounds.shown)), ([()], "0"))
        rounds.draw(())
        self.assertEqual((twin.due(), texts(twin.shown)), ([LOW], "1"))
        self.assertEqual(texts(twin.copy().shown), "1")

    def test_what_is_aside_is_copied(self):
        rounds = Rounds(Aside().gone_house())
        rounds.set_cell(((2,),), "c", 3)
        rounds.settle()
        rounds.set_cell((), "on", 0)
        rounds.set_cell(((4,),), "c", 1)
        rounds.draw(())
        twin = rounds.copy()
        for made in (twin, rounds):
            made.set_cell((), "on", 1)
            made.draw(())
            self.assertEqual(texts(made.shown), "30")


def all_orders(rounds):
    """All orders, found by drawing a copy for each instance that must be drawn."""
    found = []
    for place in rounds.due():
        twin = rounds.copy()
        twin.draw(place)
        found.extend([(place,) + order for order in all_orders(twin)])
    return found if rounds.due() else [()]


class Orders(unittest.TestCase):
    def test_all_orders_in_order(self):
        rounds = Rounds(chain_house())
        rounds.set_cell((), "c", 1)
        rounds.set_cell(LOW, "c", 1)
        before = (rounds.due(), rounds.shown)
        self.assertEqual(list(drawing_orders(rounds)), [
            ((), MID, LOW), ((), LOW, MID, LOW), (LOW, (), MID, LOW)])
        self.assertEqual((rounds.due(), rounds.shown), before)

    def test_a_generator_does_nothing_before_it_is_iterated(self):
        rounds = Rounds(chain_house())
        made = drawing_orders(rounds)
        rounds.set_cell((), "c", 1)
        self.assertEqual(list(made), [((), MID, LOW)])

    def test_places_are_those_at_the_drawing(self):
        leaf = Component("leaf", col_shape(), cells=(("c", 2, 0),))
        root = Component("root", col_shape(each_shape(get("row"), ((1,), (2,)), get("at"), "leaf")), cells=(("row", 2, 0),))
        rounds = Rounds(House([root, leaf], "root"))
        rounds.set_cell((), "row", 1)
        rounds.set_cell(((1, 1),), "c", 1)
        self.assertEqual(list(drawing_orders(rounds)), [((), ((1, 2),)), (((1, 1),), ())])

    def changed(self, seed, full):
        die = dice(seed)
        house = random_house(die, full)
        rounds = Rounds(house)
        for place, name in die.sample(rounds.instances(), min(3, len(rounds.instances()))):
            cell, size, _ = die.choice(house[name].cells)
            rounds.set_cell(place, cell, die.randrange(size))
        return rounds

    def test_against_copies_that_are_drawn(self):
        many = 0
        for seed in range(150):
            rounds = self.changed(seed, seed % 2 == 0)
            orders = [order for order, _ in zip(drawing_orders(rounds), range(200))]
            if len(orders) < 200:
                self.assertEqual(orders, all_orders(rounds))
                many += len(orders) > 1
        self.assertGreater(many, 30)

    def test_full_looks_end_in_one_page_and_settle_draws_the_fewest(self):
        for seed in range(300, 400):
            rounds = self.changed(seed, True)
            settled = rounds.copy()
            again = settled.settle()
            for order, _ in zip(drawing_orders(rounds), range(60)):
                twin = rounds.copy()
                for place in order:
                    twin.draw(place)
                self.assertEqual((twin.shown, twin.due()), (settled.shown, []))
                self.assertLessEqual(len(again), len(order))


if __name__ == "__main__":
    unittest.main()
