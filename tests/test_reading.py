import unittest

from drawnanew.components import Component
from drawnanew.errors import BadComponent, BadHouse, BadLine, Ring, TooMany, Unknown
from drawnanew.houses import House
from drawnanew.reading import read_house, read_place
from drawnanew.shapes import col_shape
from drawnanew.writing import write_house
from tests.grammar import first_wrong
from tests.helpers import dice, fix, get, house_told
from tests.making import random_house
from tests.test_writing import HOUSE, LINES

HEAD = ["house root", "far 1 2 3 1", "room 2", "focus near"]
TAIL = ["col", "end"]


def text(*lines):
    """A text with these lines of the one component, ahead of its shape."""
    return HEAD + ["component root", *lines] + TAIL


def shaped(*lines):
    """A text whose component has these lines as the parts of its shape."""
    return HEAD + ["component root", "col", *lines, "end"]


class Read(unittest.TestCase):
    def one(self, lines):
        return read_house(lines)["root"]

    def test_each_line_in_order(self):
        self.assertEqual(house_told(read_house(LINES)), house_told(HOUSE))

    def test_the_lines_stay(self):
        lines = list(LINES)
        read_house(lines)
        self.assertEqual(lines, LINES)

    def test_the_least_text(self):
        house = read_house(HEAD + ["component root", "row", "end"])
        self.assertIsInstance(house, House)
        self.assertEqual(house_told(house), house_told(House([Component("root", ("row", ()))], "root")))

    def test_the_order_of_lines_of_the_house(self):
        house = read_house(["house root", "far 1 1 1 1", "far 2 2 2 2", "far 3 3 3 3", "room 1", "focus none"] + [
            "component root"] + TAIL)
        self.assertEqual((house.far, house.room, house.focus), (((1,) * 4, (2,) * 4, (3,) * 4), 1, "none"))

    def test_no_look_is_a_look_at_all_names(self):
        lines = text("hear b 2 1", "hear a 3 0")
        self.assertEqual(self.one(lines).looks, ("b", "a"))
        self.assertEqual(self.one(text("hear b 2 1", "hear a 3 0", "look")).looks, ())
        self.assertEqual(self.one(text("hear b 2 1", "hear a 3 0", "look a")).looks, ("a",))
        self.assertEqual(self.one(text("hear b 2 1", "hear a 3 0", "look a b")).looks, ("a", "b"))

    def test_no_island_is_none(self):
        lines = HEAD + ["component root"] + TAIL + ["component isle"]
        for line, island in [
            (None, None), ("island lost checked", ("lost", True)), ("island kept trusted", ("kept", False)),
            ("island takes checked", ("takes", True)), ("island takes trusted", ("takes", False)),
        ]:
            self.assertEqual(read_house(lines + ([line] if line else []) + TAIL)["isle"].island, island)
            self.assertEqual(read_house(lines + ["look"] + ([line] if line else []) + TAIL)["isle"].island, island)

    def test_lines_that_are_skipped(self):
        lines = []
        for line in LINES:
            lines.extend(["", "# component kid", line, "#", "#house root"])
        self.assertEqual(house_told(read_house(lines)), house_told(HOUSE))
        self.assertEqual(house_told(read_house(["#"] + LINES + ["", ""])), house_told(HOUSE))

    def test_forms_of_all_words(self):
        for line, form in [
            ("is 0", fix(0)), ("is 9", fix(9)), ("get c", get("c")), ("sum is 1 get c", ("sum", fix(1), get("c"))),
            ("same get c is 2", ("same", get("c"), fix(2))), ("pick get c is 1 is 2", ("pick", get("c"), fix(1), fix(2))),
            ("sum sum sum sum is 1 is 2 is 3 is 4 is 5", (
                "sum", ("sum", ("sum", ("sum", fix(1), fix(2)), fix(3)), fix(4)), fix(5))),
            ("pick sum is 1 is 2 pick is 3 is 4 is 5 same is 6 is 7", (
                "pick", ("sum", fix(1), fix(2)), ("pick", fix(3), fix(4), fix(5)), ("same", fix(6), fix(7)))),
        ]:
            with self.subTest(line):
                lines = HEAD + ["component root", "cell c 2 1", "col", "text " + line, "end"]
                self.assertEqual(self.one(lines).shape, ("col", (("text", form),)))

    def test_rows_with_no_one_and_several_items(self):
        for rows, menu in [
            ("rows", ((),)), ("rows 1", ((1,),)), ("rows 1 2 3 4 0", ((1, 2, 3, 4, 0),)), ("rows ,", ((), ())),
            ("rows , , ,", ((), (), (), ())), ("rows 1 , 2", ((1,), (2,))), ("rows 1 2 ,", ((1, 2), ())),
            ("rows , 9 8", ((), (9, 8))), ("rows 1 , , 2 3 , 4", ((1,), (), (2, 3), (4,))),
        ]:
            with self.subTest(rows):
                lines = shaped(f"each is 0 {rows} key get item put leaf") + ["component leaf"] + TAIL
                self.assertEqual(self.one(lines).shape[1], (("each", fix(0), menu, get("item"), "leaf", ()),))

    def test_deeds(self):
        lines = ["cell c 2 0", "cell d 3 1"]
        for line, deed in [
            ("deed go stops c is 1", ("go", (("c", fix(1)),), False)), ("deed go goes d is 1", ("go", (("d", fix(1)),), True)),
            ("deed stops stops d is 1 and c get d", ("stops", (("d", fix(1)), ("c", get("d"))), False)),
        ]:
            self.assertEqual(self.one(text(*lines, line)).deeds, (deed,))

    def test_names_may_be_the_words_of_lines(self):
        lines = [
            "house end", "far 1 1 1 1", "room 1", "focus near", "elder look 1", "component end", "hear put 2 0",
            "cell look 2 0", "cell on 2 0", "ask key any get on", "effect on get on on on key", "deed and goes on is 1 and look is 0",
            "look put", "row", "button end", "when get look", "text get put", "put row", "end", "end", "component row", "col", "end",
        ]
        house = read_house(lines)
        self.assertEqual(house.root, "end")
        self.assertEqual(house["end"].effects, (("on", get("on"), ("on", "key")),))
        self.assertEqual(house["end"].deeds, (("and", (("on", fix(1)), ("look", fix(0))), True),))
        self.assertEqual(write_house(house), lines[:-2] + ["look"] + lines[-2:])


class Refused(unittest.TestCase):
    def refused(self, lines, line, word):
        """The text is refused there; the error from which that is raised."""
        with self.subTest(lines=lines[-6:], line=line, word=word), self.assertRaises(BadLine) as caught:
            read_house(lines)
        error = caught.exception
        self.assertEqual((error.line, error.word), (line, word))
        self.assertEqual(error.__cause__ is None, word > 0)
        return error.__cause__

    def test_each_word_of_each_line(self):
        for at, line in enumerate(LINES):
            words = line.split(" ")
            for place in range(len(words)):
                for wrong in ("!", "", "Root", "10", "ninesigns", "\u00b2"):
                    told = " ".join(words[:place] + [wrong] + words[place + 1:])
                    if told == "":
                        continue
                    self.refused(LINES[:at] + [told] + LINES[at + 1:], at + 1, place + 1)

    def test_each_line_that_ends_too_early(self):
        whole = {"look", "effect", "deed", "put", "each"}
        for at, line in enumerate(LINES):
            words = line.split(" ")
            if words[0] in whole:
                continue
            for many in range(1, len(words)):
                self.refused(LINES[:at] + [" ".join(words[:many])] + LINES[at + 1:], at + 1, many + 1)

    def test_lines_of_which_some_beginnings_are_whole(self):
        for line, right in [
            ("effect two is 0 on", []), ("effect one sum get c is 0 on c", [8]), ("deed go goes c is 1 and d is 1", [6]),
            ("look k g", [1, 2]),
        ]:
            lines = list(LINES)
            at = [told.split(" ")[:2] for told in lines].index(line.split(" ")[:2])
            words = line.split(" ")
            for many in range(1, len(words)):
                lines[at] = " ".join(words[:many])
                if many in right:
                    read_house(lines)
                else:
                    self.refused(lines, at + 1, many + 1)
        for line, right in [
            ("put kid get c is 0", [2, 4]), ("each is 0 rows 1 , 2 key get item put kid is 1 is 2", [12, 14]),
        ]:
            words = line.split(" ")
            for many in range(1, len(words)):
                lines = LINES[:47] + [" ".join(words[:many])] + LINES[48:]
                if many in right:
                    cause = self.refused(lines, 0, 0)
                    self.assertEqual((cause.__class__, cause.part), (BadHouse, "forms"))
                else:
                    self.refused(lines, 48, many + 1)

    def test_words_too_many(self):
        for at, line in enumerate(LINES):
            many = len(line.split(" "))
            first = line.split(" ")[0]
            for wrong in ("!", "", "0"):
                self.refused(LINES[:at] + [line + " " + wrong] + LINES[at + 1:], at + 1, many + 1)
            if first not in ("look", "effect"):
                self.refused(LINES[:at] + [line + " x"] + LINES[at + 1:], at + 1, many + 1)

    def test_spaces(self):
        for at, line in enumerate(LINES):
            self.refused(LINES[:at] + [" " + line] + LINES[at + 1:], at + 1, 1)
            words = line.split(" ")
            for place in range(1, len(words)):
                told = " ".join(words[:place]) + "  " + " ".join(words[place:])
                self.refused(LINES[:at] + [told] + LINES[at + 1:], at + 1, place + 1)
        self.refused(LINES[:3] + [" "] + LINES[3:], 4, 1)
        self.refused(LINES[:3] + [" # no comment"] + LINES[3:], 4, 1)
        self.refused(LINES[:3] + ["\t"] + LINES[3:], 4, 1)

    def test_a_text_that_ends_too_early(self):
        ends = {7, 19, 49}
        for many in range(len(LINES)):
            if many in ends or many in (5, 6):
                self.refused(LINES[:many], 0, 0)
                continue
            self.refused(LINES[:many], many + 1, 1)
            self.refused(LINES[:many] + ["", "# what comes now"], many + 3, 1)

    def test_lines_that_cannot_come_next(self):
        for lines, line in [
            (["far 1 1 1 1"], 1), (["component root"], 1), (HEAD[:1] + HEAD[2:3] + ["far 1 1 1 1"], 3),
            (HEAD[:2] + ["focus near"], 3), (HEAD[:3] + ["room 1"], 4), (HEAD[:3] + ["component root"], 4),
            (HEAD + ["house root"], 5), (HEAD + ["far 1 1 1 1"], 5), (HEAD + ["take a 1"], 5), (HEAD + ["end"], 5),
            (HEAD + ["component root", "component kid"], 6), (HEAD + ["component root", "elder c 1"], 6),
            (HEAD + ["component root", "end"], 6), (HEAD + ["component root", "Col"], 6),
            (text("look", "look"), 7), (text("island lost checked", "island lost checked"), 7), (text() + ["col"], 8),
            (text() + ["end"], 8), (text() + ["take a 1"], 8), (text() + ["elder c 1"], 8),
            (shaped("when is 1", "end"), 8), (shaped("when is 1", "row", "end", "end"), 10),
            (shaped("when is 1", "row", "end", "row", "end", "row", "end"), 12), (shaped("when is 1", "row", "end", "row", "end"), 13),
            (shaped("look"), 7), (shaped("take a 1"), 7), (shaped("component kid"), 7), (shaped("end"), 8),
        ]:
            self.refused(lines, line, 1)

    def test_the_order_of_lines_of_a_component(self):
        rows = [
            "hear h 2 0", "cell c 2 0", "ask q any is 0", "give g 2 is 0", "effect e is 0 on", "deed d stops c is 0", "look",
            "island lost checked",
        ]
        rows = ["take t 2"] + rows
        for at in range(len(rows)):
            for earlier in rows[:at]:
                self.refused(text(rows[at], earlier), 7, 1)
        for row in rows:
            self.refused(HEAD + ["component root", "col", "end", row], 8, 1)

    def test_names_and_words(self):
        for wrong in ["", "A", "a1", "a_b", "abcdefghi", "a-b", "\u00e4", "1", "Root"]:
            self.refused(["house " + wrong] + HEAD[1:], 1, 2)
            self.refused(text(f"hear {wrong} 2 0"), 6, 2)
            self.refused(text(f"deed {wrong} stops c is 0"), 6, 2)
            self.refused(text("deed go stops " + wrong + " is 0"), 6, 4)
            self.refused(text("effect e is 0 on " + wrong), 6, 6)
            self.refused(shaped("button " + wrong), 7, 2)
            self.refused(shaped("put " + wrong), 7, 2)
            self.refused(shaped("text get " + wrong), 7, 3)
            self.refused(shaped("text sum get c get " + wrong), 7, 6)

    def test_digits(self):
        for wrong in ["", "-1", "10", "00", "a", "1.0", "+1", "\u00b2", "\u0663", " "]:
            word = wrong if wrong != " " else ""
            self.refused(["house root", "far 1 1 " + word + " 1"], 2, 4)
            self.refused(HEAD[:2] + ["room " + word], 3, 2)
            self.refused(HEAD + ["elder c " + word], 5, 3)
            self.refused(text("take t " + word), 6, 3)
            self.refused(text("cell c 2 " + word), 6, 4)
            self.refused(shaped("text is " + word), 7, 3)
            self.refused(shaped(f"each is 0 rows 1 {word} key is 0 put a"), 7, 6)

    def test_first_words_of_forms_fences_and_rules(self):
        for wrong in ["", "was", "sums", "Is", "1", "has"]:
            self.refused(shaped("text " + wrong), 7, 2)
            self.refused(shaped("text sum is 1 " + wrong + " 1"), 7, 5)
            self.refused(shaped("put a is 0 " + wrong), 7, 5)
            self.refused(text(f"ask q {wrong} is 0"), 6, 3)
            self.refused(HEAD[:3] + ["focus " + wrong], 4, 2)
            self.refused(text("island " + wrong + " checked"), 6, 2)
            self.refused(text("island lost " + wrong), 6, 3)

    def test_words_that_stand_for_themselves(self):
        for lines, line, word in [
            (text("cell c 2 0", "deed go stop c is 0"), 7, 3), (text("cell c 2 0", "deed go stops c is 0 or c is 1"), 7, 7),
            (text("effect e is 0 in c"), 6, 5), (text("effect e is 0"), 6, 5), (shaped("each is 0 row 1 key is 0 put a"), 7, 4),
            (shaped("each is 0 rows 1 kay is 0 put a"), 7, 6), (shaped("each is 0 rows 1 key is 0 a"), 7, 9),
            (shaped("each is 0 rows 1 , key is 0 pat a"), 7, 10), (shaped("each is 0 rows 1 2"), 7, 7),
            (shaped("each is 0 rows 1; 2 key is 0 put a"), 7, 5), (text("island lost check"), 6, 3),
        ]:
            self.refused(lines, line, word)

    def test_the_first_wrong_word_counts(self):
        self.refused(["house Root", "!", "!"], 1, 2)
        self.refused(["house root more", "!", "!"], 1, 3)
        self.refused(LINES[:20] + ["hear G 11 !"] + ["!"], 21, 2)
        self.refused(LINES[:20] + ["hear g 11 !"] + ["!"], 21, 3)
        self.refused([], 1, 1)
        self.refused(["", "#"], 3, 1)


class NotAsDescribed(unittest.TestCase):
    def bad(self, lines, line):
        with self.subTest(lines=lines[4:]), self.assertRaises(BadLine) as caught:
            read_house(lines)
        self.assertEqual((caught.exception.line, caught.exception.word), (line, 0))
        return caught.exception.__cause__

    def test_a_component_from_its_error(self):
        for rows, part in [
            (["take t 5"], "takes"), (["take t 0"], "takes"), (["take t 1"] * 2, "takes"), (["take at 1"], "takes"),
            (["take a 1", "take b 1", "take c 1", "take d 1"], "takes"), (["hear h 2 2"], "hears"),
            (["take a 1", "hear a 1 0"], "hears"), (["cell c 2 2"], "cells"), (["cell c 9 9"], "cells"),
            (["cell c 2 0", "ask q any get q"], "asks"), (["ask q any sum sum sum sum sum is 0 is 0 is 0 is 0 is 0 is 0"], "asks"),
            (["give g 5 is 0"], "gives"), (["give item 2 is 0"], "gives"), (["effect e get c on"], "effects"),
            (["effect e is 0 on c"], "effects"), (["effect e is 0 on"] * 2, "effects"), (["deed d stops c is 0"], "deeds"),
            (["cell c 2 0", "deed d stops c is 0 and c is 0"], "deeds"), (["look c"], "looks"),
            (["hear a 2 0", "look a a"], "looks"),
        ]:
            cause = self.bad(text(*rows), 5)
            self.assertEqual((cause.__class__, cause.part), (BadComponent, part))

    def test_a_shape_from_its_error(self):
        for lines in [["text is 0"], ["button go"], ["when is 0", "row", "end", "row", "end", "end"], ["put root"],
                      ["each is 0 rows key is 0 put root"]]:
            cause = self.bad(HEAD + ["component root"] + lines, 5)
            self.assertEqual((cause.__class__, cause.part), (BadComponent, "shape"))
        for lines in [
            ["text get c"], ["text is 0"] * 16, ["row"] * 5 + ["end"] * 5, ["each is 0 rows 1 1 key is 0 put a"],
            ["each is 0 rows , , , , key is 0 put a"], ["each is 0 rows 1 2 3 4 5 6 key is 0 put a"],
            ["each is 0 rows 1 key get c put a"], ["put a get item"], ["text sum sum sum sum sum is 0 is 0 is 0 is 0 is 0 is 0"],
        ]:
            cause = self.bad(shaped(*lines), 5)
            self.assertEqual((cause.__class__, cause.part), (BadComponent, "shape"))
        self.assertEqual(len(read_house(shaped(*["text is 0"] * 15))["root"].shape[1]), 15)

    def test_the_line_of_the_component_among_all_lines(self):
        lines = ["# one", ""] + HEAD + ["", "component kid"] + TAIL + ["#", "component root", "# two", "take t 5"] + TAIL
        self.bad(lines, 12)
        self.bad(lines + ["component kid"] + TAIL, 12)

    def test_when_it_is_raised(self):
        bad = HEAD + ["component kid", "take t 5"]
        # The text goes wrong within the component, or behind it with no further component: that is told first.
        for lines, line, word in [
            (bad + ["col"], 8, 1), (bad + ["col", "text is"], 8, 3), (bad + ["col", "end", "end"], 9, 1),
            (bad + ["col", "end", "Component root"], 9, 1), (bad + ["col", "end", "house root"], 9, 1),
            (bad + ["hear t 5 5", "take t 5"], 8, 1), (bad, 7, 1),
        ]:
            with self.subTest(lines=lines[5:]), self.assertRaises(BadLine) as caught:
                read_house(lines)
            self.assertEqual((caught.exception.line, caught.exception.word), (line, word))
            self.assertIsNone(caught.exception.__cause__)
        for lines in [TAIL, TAIL + ["component"], TAIL + ["component Root"], TAIL + ["component root", "!"], TAIL + ["", "#"]]:
            self.assertIsInstance(self.bad(bad + lines, 5), BadComponent)

    def test_the_first_bad_component_counts(self):
        self.bad(HEAD + ["component kid", "take t 5"] + TAIL + ["component root", "take t 6"] + TAIL, 5)

    def test_a_house_from_its_error(self):
        leaf = ["component leaf"] + TAIL
        for lines, cause in [
            (["house root", "room 2", "focus near"], BadHouse("components")), (HEAD, BadHouse("components")),
            (HEAD + leaf, BadHouse("root")), (["house leaf", "room 2", "focus near"] + leaf, BadHouse("far")),
            (["house leaf", "far 0 1 1 1", "room 2", "focus near"] + leaf, BadHouse("far")),
            (["house leaf"] + ["far 1 1 1 1"] * 4 + ["room 2", "focus near"] + leaf, BadHouse("far")),
            (["house leaf", "far 1 1 1 1", "room 4", "focus near"] + leaf, BadHouse("room")),
            (["house leaf", "far 1 1 1 1", "room 1", "focus near", "elder c 0"] + leaf, BadHouse("elder")),
            (text() + ["component root"] + TAIL, BadHouse("components")),
            (HEAD + sum([[f"component {name}"] + TAIL for name in ("root", "b", "c", "d", "e", "f", "g")], []), BadHouse("components")),
            (text("take t 1"), BadHouse("root")), (shaped("put leaf"), Unknown("leaf")),
            (shaped("put leaf is 0") + leaf, BadHouse("forms")), (shaped("put root"), Ring("root")),
            (shaped("put isle") + ["component isle", "ask q any is 0", "island lost checked"] + TAIL, BadHouse("island")),
            (shaped(*["each is 0 rows 1 2 3 4 5 key get item put leaf"] * 5) + leaf, TooMany(26)),
        ]:
            with self.subTest(lines=lines), self.assertRaises(BadLine) as caught:
                read_house(lines)
            self.assertEqual((caught.exception.line, caught.exception.word), (0, 0))
            found = caught.exception.__cause__
            self.assertEqual((found.__class__, vars(found)), (cause.__class__, vars(cause)))

    def test_a_wrong_word_comes_ahead_of_the_house(self):
        with self.assertRaises(BadLine) as caught:
            read_house(shaped("put none") + ["end"])
        self.assertEqual((caught.exception.line, caught.exception.word), (9, 1))


class Seeds(unittest.TestCase):
    WORDS = (
        "house far room focus elder component take hear cell ask give effect deed look island text button row col when put each end "
        "is get sum same pick on stops goes and rows key , any own both last none first near lost kept takes checked trusted "
        "root leaf mid top a b c t q item at go 0 1 2 3 5 9 10 ! # A ninesigns"
    ).split(" ") + [""]

    def changed(self, die, lines):
        """The lines with one small change."""
        lines = list(lines)
        at = die.randrange(len(lines))
        words = lines[at].split(" ")
        place = die.randrange(len(words) + 1)
        way = die.randrange(9)
        if way < 3:
            words[place:place + 1] = [die.choice(self.WORDS)]
        elif way == 3:
            del words[place:place + 1]
        elif way == 4:
            words.insert(place, die.choice(self.WORDS))
        lines[at] = " ".join(words)
        if way == 5:
            del lines[at]
        elif way == 6:
            lines.insert(at, die.choice(lines))
        elif way == 7:
            other = die.randrange(len(lines))
            lines[at], lines[other] = lines[other], lines[at]
        elif way == 8:
            del lines[at:]
        return lines

    def test_held_against_a_table_of_the_language(self):
        self.assertEqual(first_wrong(LINES), (None, [8, 20, 50]))
        seen = {"whole": 0, "word": 0, "component": 0, "house": 0}
        for seed in range(3000):
            die = dice(seed)
            lines = LINES if seed % 2 else write_house(random_house(die, False, islands=True))
            for _ in range(die.randrange(1, 3)):
                lines = self.changed(die, lines) or lines
            wrong, components = first_wrong(lines)
            try:
                read_house(lines)
            except BadLine as error:
                found = (error.line, error.word)
                if found == (0, 0):
                    self.assertIsNone(wrong)
                    seen["house"] += 1
                elif error.word == 0:
                    # Told when the next component is reached, or where the text ends.
                    self.assertIsInstance(error.__cause__, BadComponent)
                    self.assertIn(error.line, components)
                    self.assertTrue(wrong is None or error.line != components[-1])
                    seen["component"] += 1
                else:
                    self.assertEqual(found, wrong, lines)
                    seen["word"] += 1
                continue
            self.assertIsNone(wrong, lines)
            seen["whole"] += 1
        self.assertTrue(all([many > 30 for many in seen.values()]), seen)


class ReadPlace(unittest.TestCase):
    def test_places(self):
        for told, place in [
            (".", ()), ("0", ((0,),)), ("3:2/1", ((3, 2), (1,))), ("99:99", ((99, 99),)), ("10/0:10/5", ((10,), (0, 10), (5,))),
            ("1/2/3/4/5/6/7/8", tuple([(k,) for k in range(1, 9)])),
        ]:
            self.assertEqual(read_place(told), place)

    def test_no_places(self):
        for told in [
            "", "/", ":", "..", "./1", "1/.", "/1", "1/", "1//2", "1:", ":1", "1:2:3", "01", "00", "1:01", "100", "1:100", "-1",
            "+1", "1 ", " 1", "a", "1:a", "1,2", "1/2:", "\u00b2", "\u0661", "1/2/x", "1.", ". ", "1/ 2", "1 2", "(1,)",
        ]:
            with self.subTest(told):
                self.assertIsNone(read_place(told))


if __name__ == "__main__":
    unittest.main()
