import unittest

from drawnanew.components import Component
from drawnanew.houses import House
from drawnanew.reading import read_house, read_place
from drawnanew.shapes import button_shape, col_shape, each_shape, put_shape, row_shape, text_shape, when_shape
from drawnanew.writing import write_house, write_place
from tests.helpers import dice, fix, get, house_told
from tests.making import random_house

# One house with all that a text can tell, and its lines.
KID = Component(
    "kid",
    col_shape(
        each_shape(get("t"), ((1, 2, 3), (), (9,)), ("sum", get("item"), get("at")), "leaf"),
        each_shape(fix(0), ((),), get("item"), "leaf"), each_shape(fix(1), ((), (0, 5)), fix(3), "leaf"),
        button_shape("go"),
    ),
    takes=(("t", 2), ("u", 4)), hears=(("h", 3, 2),), looks=(), island=("kept", False),
)
LEAF = Component("leaf", row_shape(), island=("takes", True))
ROOT = Component(
    "root",
    row_shape(
        col_shape(), text_shape(("pick", get("c"), fix(0), ("same", get("d"), get("q")))),
        when_shape(get("c"), row_shape(button_shape("a"), button_shape("b")), when_shape(
            fix(0), text_shape(fix(7)), put_shape("leaf"))),
        put_shape("kid", ("sum", get("c"), fix(1)), get("r")),
    ),
    hears=(("g", 2, 0), ("k", 4, 3)), cells=(("c", 3, 2), ("d", 2, 0)),
    asks=(("q", get("c"), "any"), ("r", fix(2), "last")), gives=(("g", 2, get("c")), ("h", 4, ("sum", get("q"), fix(1)))),
    effects=(("one", get("c"), ("c", "g", "q")), ("two", fix(0), ())),
    deeds=(
        ("go", (("c", ("sum", get("c"), get("item"))), ("d", fix(1))), True), ("stop", (("d", get("g")),), False),
    ),
    looks=("k", "g"),
)
HOUSE = House(
    [KID, ROOT, LEAF], "root", far=((1, 2, 3, 1), (3, 3, 2, 2)), room=3, focus="first", elder=(("d", 1), ("c", 0)))
LINES = [
    "house root",
    "far 1 2 3 1",
    "far 3 3 2 2",
    "room 3",
    "focus first",
    "elder d 1",
    "elder c 0",
    "component kid",
    "take t 2",
    "take u 4",
    "hear h 3 2",
    "look",
    "island kept trusted",
    "col",
    "each get t rows 1 2 3 , , 9 key sum get item get at put leaf",
    "each is 0 rows key get item put leaf",
    "each is 1 rows , 0 5 key is 3 put leaf",
    "button go",
    "end",
    "component root",
    "hear g 2 0",
    "hear k 4 3",
    "cell c 3 2",
    "cell d 2 0",
    "ask q any get c",
    "ask r last is 2",
    "give g 2 get c",
    "give h 4 sum get q is 1",
    "effect one get c on c g q",
    "effect two is 0 on",
    "deed go goes c sum get c get item and d is 1",
    "deed stop stops d get g",
    "look k g",
    "row",
    "col",
    "end",
    "text pick get c is 0 same get d get q",
    "when get c",
    "row",
    "button a",
    "button b",
    "end",
    "when is 0",
    "text is 7",
    "put leaf",
    "end",
    "end",
    "put kid sum get c is 1 get r",
    "end",
    "component leaf",
    "look",
    "island takes checked",
    "row",
    "end",
]


class WritePlace(unittest.TestCase):
    def test_places(self):
        for place, text in [
            ((), "."), (((0,),), "0"), (((3, 2), (1,)), "3:2/1"), (((15,), (1, 0), (2,)), "15/1:0/2"), (((3, 9),), "3:9"),
        ]:
            self.assertEqual(write_place(place), text)
            self.assertEqual(read_place(text), place)


class WriteHouse(unittest.TestCase):
    def test_each_line_in_order(self):
        self.assertEqual(write_house(HOUSE), LINES)

    def test_the_least_house(self):
        self.assertEqual(write_house(House([Component("root", col_shape())], "root")), [
            "house root", "far 1 2 3 1", "room 2", "focus near", "component root", "look", "col", "end"])

    def test_looks_are_written_where_all_names_are_looked_at(self):
        component = Component("kid", col_shape(), takes=(("a", 1),), hears=(("b", 2, 1),))
        house = House([component, Component("root", col_shape())], "root")
        self.assertEqual(write_house(house)[4:9], ["component kid", "take a 1", "hear b 2 1", "look a b", "col"])

    def test_the_list_belongs_to_the_caller_and_the_house_stays(self):
        before = house_told(HOUSE)
        write_house(HOUSE).clear()
        self.assertEqual(write_house(HOUSE), LINES)
        self.assertEqual(house_told(HOUSE), before)

    def test_writing_and_reading_lead_back(self):
        self.assertEqual(house_told(read_house(write_house(HOUSE))), house_told(HOUSE))
        for seed in range(200):
            house = random_house(dice(seed), seed % 5 == 0, islands=seed % 3 == 0)
            lines = write_house(house)
            told = read_house(lines)
            self.assertEqual(house_told(told), house_told(house))
            self.assertEqual(write_house(told), lines)
            self.assertFalse([line for line in lines if "  " in line or line != line.strip() or line == ""])


if __name__ == "__main__":
    unittest.main()
