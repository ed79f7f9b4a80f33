import unittest

from drawnanew.components import Component
from drawnanew.errors import BadComponent, Blamed, NoPaper, TooMany, Unknown
from drawnanew.houses import House
from drawnanew.judging import blame, judge
from drawnanew.marks import mended, weak_marks
from drawnanew.mending import alike
from drawnanew.needs import settings
from drawnanew.papers import Paper, needed_looks, output, paper, papers, thinned, vouched
from drawnanew.shapes import button_shape, col_shape, each_shape, put_shape, row_shape, text_shape, when_shape
from drawnanew.surroundings import widest
from tests.helpers import deed, dice, fix, get, house_told, parts_of, plus
from tests.houses import AT, ITEM, counters, growing, old_effect, shown, stale, stale_twice, swapped
from tests.making import is_plain, random_house, small

PAPER_KINDS = ("press", "land", "far")


def good_house():
    """A house without weak marks, of small components."""
    return mended(stale(2), ("looks", "shown"))


class Papers(unittest.TestCase):
    def test_a_good_paper(self):
        house = good_house()
        told = paper(house, "shown")
        self.assertIsInstance(told, Paper)
        self.assertEqual(told.component, "shown")
        self.assertEqual(house_told(told.house), house_told(widest(house, "shown")))
        self.assertEqual(told.verdict.stands, judge(told.house, PAPER_KINDS).stands)
        self.assertIs(told.verdict.right, True)
        self.assertIs(bool(told), True)

    def test_a_paper_that_is_not_good(self):
        told = paper(stale(2), "shown")
        self.assertIs(bool(told), False)
        self.assertIs(told.verdict.right, False)
        # The button `a` sets the next cell, `b` hands it down.
        self.assertEqual(told.verdict.row, [("press", (), "a"), ("press", (), "b")])
        self.assertEqual((told.verdict.what, told.verdict.stands), ("page", []))
        self.assertEqual(weak_marks(told.house), [("looks", "shown")])

    def test_a_mark_that_its_own_house_does_not_part_by(self):
        house = House([Component("root", col_shape(put_shape("shown", fix(1)))), shown(())], "root")
        self.assertTrue(judge(house).right)
        self.assertFalse(paper(house, "shown"))
        self.assertTrue(paper(house, "root"))

    def test_only_presses_landings_and_editions(self):
        self.assertEqual([event[0] for row, _ in paper(good_house(), "shown").verdict.stands for event in row].count(
            "next"), 0)
        kid = Component("kid", col_shape(each_shape(get("t"), ((1, 2), (2, 1)), AT, "leaf")), takes=(("t", 2),))
        leaf = Component("leaf", col_shape(button_shape("go")))
        house = House([Component("root", col_shape(put_shape("kid", fix(0)))), kid, leaf], "root")
        told = paper(house, "kid")
        # The stubs of the leaf have a cell, so that a press shows what the focus would show.
        self.assertEqual([event[0] for event in told.verdict.row], ["press"] * 3)

    def test_answers_and_editions_count(self):
        asker = Component(
            "asker", col_shape(text_shape(get("q"))), takes=(("t", 2),), asks=(("q", get("t"), "any"),))
        house = House(
            [Component("root", col_shape(put_shape("asker", fix(0)))), asker], "root", far=((1, 2, 1, 1), (2, 1, 1, 1)))
        told = paper(house, "asker")
        self.assertFalse(told)
        self.assertEqual(told.verdict.row[-1][0], "land")
        same = house.replaced(asker.changed(asks=(("q", fix(0), "own"),)))
        self.assertTrue(paper(same, "asker"))
        # Drawn anew, it asks the same question of the next edition, and the answer of the first one comes late.
        same = house.replaced(asker.changed(asks=(("q", fix(0), "same"),)))
        row = paper(same, "asker").verdict.row
        self.assertEqual(sorted([event[0] for event in row]), ["land", "press", "press"])

    def test_what_only_a_later_edition_shows(self):
        late = ("same", get("q"), fix(3))
        asker = Component(
            "asker", col_shape(text_shape(late)), takes=(("t", 2),), asks=(("q", get("t"), "last"),),
            effects=(("e", late, ()),))
        root = Component("root", col_shape(put_shape("asker", fix(0))))
        house = House([root, asker], "root", far=((1, 1, 1, 1), (3, 3, 3, 3)))
        self.assertEqual(sorted([event[0] for event in paper(house, "asker").verdict.row]), ["far", "land", "press", "press"])
        self.assertTrue(paper(house.changed(far=((1, 1, 1, 1), (2, 2, 2, 2))), "asker"))

    def test_an_island_is_left_aside(self):
        isle = Component("isle", col_shape(text_shape(get("t"))), takes=(("t", 2),), island=("lost", False))
        house = House([Component("root", col_shape(put_shape("isle", fix(0)))), isle], "root")
        self.assertTrue(paper(house, "isle"))

    def test_errors(self):
        for name in ("none", "", None):
            with self.assertRaises(Unknown) as caught:
                paper(stale(), name)
            self.assertEqual(caught.exception.name, name)
        with self.assertRaises(TooMany) as caught:
            paper(counters(4, 4, 4, 4, 4), "root")
        self.assertEqual(caught.exception.count, 601)
        words = "abcdefghijklmn"
        root = Component(
            "root", col_shape(), hears=(("h", 2, 0),), cells=(("c", 2, 0),),
            deeds=tuple([deed(word, "c", fix(0), True) for word in words]))
        with self.assertRaises(BadComponent):
            paper(House([root], "root"), "root")

    def test_papers_in_the_order_of_the_components(self):
        house = stale(2)
        found = papers(house)
        self.assertIsInstance(found, list)
        self.assertEqual([(told.component, bool(told)) for told in found], [("root", True), ("shown", False)])
        turned = house.changed(components=[house["shown"], house["root"]])
        self.assertEqual([(told.component, bool(told)) for told in papers(turned)], [("shown", False), ("root", True)])

    def test_papers_raise_what_a_paper_raises(self):
        with self.assertRaises(TooMany):
            papers(counters(4, 4, 4, 4, 4))


class Vouched(unittest.TestCase):
    def test_the_number_of_papers(self):
        self.assertEqual(vouched(good_house()), 2)
        self.assertEqual(vouched(counters(2)), 1)

    def refused(self, house):
        with self.assertRaises(NoPaper) as caught:
            vouched(house)
        self.assertIsInstance(caught.exception.__cause__, Blamed)
        return caught.exception.component, caught.exception.__cause__.mark

    def test_no_paper_from_the_mark_to_blame(self):
        self.assertEqual(self.refused(stale(2)), ("shown", ("looks", "shown")))
        house = old_effect()
        self.assertEqual(self.refused(house), ("root", ("effect", "root", "title")))
        self.assertEqual(self.refused(swapped(AT)), ("root", ("key", "root", 2)))

    def test_the_first_one_that_is_not_good(self):
        house = stale_twice()
        self.assertEqual(self.refused(house), ("mid", ("looks", "mid")))
        turned = house.changed(components=[house["shown"], house["mid"], house["root"]])
        self.assertEqual(self.refused(turned), ("shown", ("looks", "shown")))

    def test_no_single_mark_is_to_blame(self):
        # The same value is armed as two effects, each on the wrong list.
        effects = (("one", get("size"), ()), ("two", get("size"), ()))
        house = House([growing(effects=effects)], "root")
        self.assertEqual(self.refused(house), ("root", None))

    def test_the_first_one_is_told_though_a_later_one_has_too_many_stands(self):
        leaf = counters(4, 4, 4, 4, 4)["root"].changed(name="many")
        root = growing(put_shape("many"), effects=(("one", get("size"), ()),), size=2)
        self.assertEqual(self.refused(House([root, leaf], "root"))[0], "root")
        with self.assertRaises(TooMany):
            vouched(House([leaf, root], "root"))


FULL = Component(
    "full",
    col_shape(
        text_shape(get("t")), button_shape("go"),
        when_shape(get("c"), row_shape(text_shape(get("q"))), put_shape("leaf", get("t"), ("sum", get("c"), fix(9)))),
        each_shape(get("t"), ((3, 4), (4, 5)), AT, "kid", ("sum", get("item"), get("at")), get("c")),
    ),
    takes=(("t", 3),), hears=(("h", 2, 1),), cells=(("c", 2, 0),), asks=(("q", plus("h", 9), "last"),),
    gives=(("g", 2, plus("t")),), effects=(("e", ("same", get("c"), get("t")), ("q", "c")), ("f", fix(3), ())),
    deeds=(deed("go", "c", ("sum", get("item"), get("t"))),),
)


def at(**values):
    return output(FULL, {**{"t": 0, "h": 0, "c": 0, "q": 0}, **values})


class Output(unittest.TestCase):
    def test_a_tuple(self):
        self.assertIsInstance(at(), tuple)
        self.assertEqual(at(), at())
        hash(at())

    def differ(self, parts, names=(("n", 4),), same=(), apart=()):
        """The settings of n with the same output as n at 0, and those with another one."""
        component = Component("x", parts.pop("shape", col_shape()), cells=tuple([(name, 4, 0) for name, _ in names]), **parts)
        base = output(component, {"n": 0})
        for value in range(1, 4):
            with self.subTest(parts=parts, value=value):
                (self.assertEqual if value in same else self.assertNotEqual)(output(component, {"n": value}), base)
        self.assertEqual(sorted(same + apart), [1, 2, 3])

    def test_nothing_reads_it(self):
        self.differ({}, same=(1, 2, 3))

    def test_questions_modulo_4(self):
        form = ("pick", get("n"), plus("n", 3), fix(0))
        component = Component("x", col_shape(), cells=(("n", 4, 0),), asks=(("q", form, "last"),))
        outs = [output(component, {"n": value, "q": 0}) for value in range(4)]
        # 0, 4, 5 and 6 are the questions 0, 0, 1 and 2.
        self.assertEqual(outs[0], outs[1])
        self.assertEqual([outs.index(told) for told in outs], [0, 0, 2, 3])
        self.assertEqual(output(component, {"n": 0, "q": 3}), outs[0])

    def test_gives_modulo_their_sizes(self):
        self.differ({"gives": (("g", 2, get("n")),)}, same=(2,), apart=(1, 3))
        self.differ({"gives": (("g", 3, get("n")),)}, same=(3,), apart=(1, 2))
        self.differ({"gives": (("g", 1, get("n")),)}, same=(1, 2, 3))

    def test_values_of_effects(self):
        self.differ({"effects": (("e", ("same", get("n"), fix(2)), ()),)}, same=(1, 3), apart=(2,))
        self.differ({"effects": (("e", plus("n"), ()),)}, apart=(1, 2, 3))

    def test_values_of_their_lists(self):
        self.differ({"effects": (("e", fix(0), ("n",)),)}, apart=(1, 2, 3))
        self.differ({"effects": (("e", fix(0), ()), ("f", fix(1), ("n",)))}, apart=(1, 2, 3))

    def test_labels(self):
        self.differ({"shape": col_shape(text_shape(("same", get("n"), fix(3))))}, same=(1, 2), apart=(3,))

    def test_numbers_of_shapes(self):
        shape = col_shape(when_shape(get("n"), text_shape(fix(1)), text_shape(fix(1))))
        self.differ({"shape": shape}, apart=(1, 2, 3))
        shape = col_shape(when_shape(get("n"), button_shape("a"), button_shape("a")))
        self.differ({"shape": shape}, apart=(1, 2, 3))
        shape = col_shape(when_shape(get("n"), row_shape(), row_shape()))
        self.differ({"shape": shape}, apart=(1, 2, 3))
        shape = col_shape(when_shape(get("n"), put_shape("a"), put_shape("a")))
        self.differ({"shape": shape}, apart=(1, 2, 3))

    def test_where_children_stand(self):
        inner = when_shape(("same", get("n"), fix(1)), row_shape(put_shape("a")), col_shape(put_shape("a")))
        self.differ({"shape": col_shape(inner)}, same=(2, 3), apart=(1,))

    def test_last_steps_of_the_paths_of_children(self):
        # The items stay, and so do the places; the key tells by which idents they are known.
        shape = col_shape(each_shape(get("n"), ((1, 2), (1, 2), (2, 1), (1,)), ITEM, "a"))
        self.differ({"shape": shape}, same=(1,), apart=(2, 3))

    def test_last_steps_of_the_places_of_children(self):
        shape = col_shape(each_shape(get("n"), ((1,), (1,), (2,), (3,)), fix(0), "a"))
        self.differ({"shape": shape}, same=(1,), apart=(2, 3))

    def test_the_path_alone_may_differ(self):
        shape = col_shape(each_shape(get("n"), ((1, 2), (2, 1), (1, 2), (2, 1)), ("same", ITEM, fix(1)), "a"))
        self.differ({"shape": shape}, same=(2,), apart=(1, 3))

    def test_what_is_handed_down_is_not_taken_modulo(self):
        form = ("pick", ("same", get("n"), fix(1)), fix(9), fix(1))
        self.differ({"shape": col_shape(put_shape("a", form))}, same=(2, 3), apart=(1,))
        shape = col_shape(each_shape(fix(0), ((1,),), ITEM, "a", ("sum", form, get("at"))))
        self.differ({"shape": shape}, same=(2, 3), apart=(1,))
        shape = col_shape(each_shape(fix(0), ((),), ITEM, "a", form))
        self.differ({"shape": shape}, same=(1, 2, 3))

    def test_what_each_deed_sets_modulo_the_sizes(self):
        cells = (("n", 4, 0), ("m", 2, 0))
        outs = []
        for form in (get("n"), ("sum", get("n"), get("item"))):
            component = Component("x", col_shape(), cells=cells, deeds=(deed("go", "m", form),))
            found = [output(component, {"n": value, "m": 0}) for value in range(4)]
            outs.append([found.index(told) for told in found])
        self.assertEqual(outs, [[0, 1, 0, 1]] * 2)

    def test_what_deeds_set_for_each_item(self):
        for item in range(10):
            form = ("pick", ("same", get("item"), fix(item)), get("n"), fix(0))
            self.differ({"deeds": (deed("go", "n", form),)}, apart=(1, 2, 3))
        form = ("pick", ("same", ("sum", get("item"), fix(0)), fix(9)), get("n"), fix(0))
        self.differ({"deeds": (deed("go", "n", form, True),)}, apart=(1, 2, 3))

    def test_all_pairs_of_a_deed(self):
        cells = (("n", 4, 0), ("m", 2, 0))
        deeds = (("go", (("m", fix(1)), ("n", get("n"))), False), deed("on", "m", fix(1)))
        component = Component("x", col_shape(), cells=cells, deeds=deeds)
        found = [output(component, {"n": value, "m": 0}) for value in range(4)]
        self.assertEqual(len(set(found)), 4)

    def test_a_whole_component(self):
        # Behind h 0 and 1 stand the questions 9 and 10, which are 1 and 2; q is in a list; c and t are in all.
        self.assertEqual(len({at(t=t, h=h, c=c, q=q) for t in range(3) for h in range(2) for c in range(2) for q in range(4)}), 48)

    def test_the_setting_stays(self):
        setting = {"t": 1, "h": 0, "c": 1, "q": 2}
        output(FULL, setting)
        self.assertEqual(setting, {"t": 1, "h": 0, "c": 1, "q": 2})


class NeededLooks(unittest.TestCase):
    def test_names_of_takes_and_hears_in_order(self):
        self.assertEqual(needed_looks(FULL), ("t", "h"))
        self.assertEqual(needed_looks(FULL.changed(looks=())), ("t", "h"))
        self.assertEqual(needed_looks(Component("x", col_shape())), ())

    def some(self, *names, takes=("a", "b", "c"), hears=("d", "e")):
        shape = col_shape(*[text_shape(get(name)) for name in names])
        return Component(
            "x", shape, takes=tuple([(name, 2) for name in takes]), hears=tuple([(name, 2, 0) for name in hears]),
            cells=(("f", 2, 0),))

    def test_which_names(self):
        for names, needs in [
            ("", ()), ("a", ("a",)), ("ecf", ("c", "e")), ("f", ()), ("fedcba", ("a", "b", "c", "d", "e")), ("db", ("b", "d")),
        ]:
            with self.subTest(names):
                self.assertEqual(needed_looks(self.some(*names)), needs)

    def test_a_name_that_is_read_and_not_needed(self):
        shape = col_shape(text_shape(("same", get("a"), get("a"))), text_shape(("pick", fix(1), get("b"), get("a"))))
        component = Component("x", shape, takes=(("a", 2), ("b", 2), ("c", 1)), hears=(("d", 4, 0),))
        self.assertEqual(needed_looks(component), ("b",))

    def test_a_name_that_only_some_settings_of_others_need(self):
        form = ("pick", ("same", get("q"), fix(3)), get("a"), fix(0))
        component = Component("x", col_shape(text_shape(form)), takes=(("a", 2),), asks=(("q", fix(0), "last"),))
        self.assertEqual(needed_looks(component), ("a",))
        form = ("pick", ("same", get("q"), fix(4)), get("a"), fix(0))
        component = component.changed(shape=col_shape(text_shape(form)))
        self.assertEqual(needed_looks(component), ())

    def test_what_a_deed_reads_is_needed(self):
        component = Component(
            "x", col_shape(), takes=(("a", 2), ("b", 2)), cells=(("c", 2, 0),), deeds=(deed("go", "c", get("b")),))
        self.assertEqual(needed_looks(component), ("b",))

    def test_256_settings_and_more(self):
        takes = (("a", 4), ("b", 4))
        component = Component("x", col_shape(text_shape(get("b"))), takes=takes, cells=(("c", 4, 0), ("d", 4, 0)))
        self.assertEqual(needed_looks(component), ("b",))
        for parts, many in [
            ({"cells": (("c", 4, 0), ("d", 4, 0), ("e", 2, 0))}, 512), ({"hears": (("h", 3, 0),)}, 768),
            ({"asks": (("q", fix(0), "last"),)}, 1024),
        ]:
            with self.subTest(many), self.assertRaises(TooMany) as caught:
                needed_looks(component.changed(looks=None, **parts))
            self.assertEqual(caught.exception.count, many)


class Thinned(unittest.TestCase):
    def test_needed_looks_are_the_looks_of_each_component(self):
        first = Component(
            "first", col_shape(text_shape(get("b"))), takes=(("a", 2), ("b", 2)), hears=(("c", 2, 0),), looks=("a",))
        second = FULL.changed(looks=(), shape=FULL.shape[:1] + (FULL.shape[1][:2],))
        root = Component("root", col_shape(put_shape("first", fix(0), fix(1)), put_shape("full", fix(2))))
        house = House([second, first, root], "root", room=3, far=((3, 3, 3, 3),), focus="none")
        before = house_told(house)
        told = thinned(house)
        self.assertIsInstance(told, House)
        self.assertEqual([component.looks for component in told], [("t", "h"), ("b",), ()])
        self.assertEqual(house_told(house), before)
        for component, row in zip(told, before["components"]):
            self.assertEqual({**parts_of(component), "looks": None}, {**row, "looks": None})
        self.assertEqual({**house_told(told), "components": None}, {**before, "components": None})

    def test_too_many(self):
        big = Component("big", col_shape(), cells=(("c", 4, 0), ("d", 4, 0), ("e", 4, 0), ("f", 4, 0), ("g", 3, 0)))
        bigger = big.changed(name="bigger", cells=big.cells + (("h", 2, 0),))
        house = House([Component("root", col_shape()), big, bigger], "root")
        with self.assertRaises(TooMany) as caught:
            thinned(house)
        self.assertEqual(caught.exception.count, 768)
        with self.assertRaises(TooMany) as caught:
            thinned(house.changed(components=[house["root"], bigger, big]))
        self.assertEqual(caught.exception.count, 1536)


def plain_houses(seed, many, full=False, islands=False):
    """So many houses at random of which no widest house has many stands."""
    while many:
        seed += 1
        house = small(random_house(dice(seed), full, islands=islands and seed % 3 == 0))
        if all([is_plain(widest(house, component.name), 130) for component in house]):
            many -= 1
            yield house


class Promises(unittest.TestCase):
    def test_good_papers_make_a_right_house(self):
        seen = {"good": 0, "not good": 0, "weak": 0}
        for house in plain_houses(11000, 60, islands=True):
            weak = weak_marks(house)
            if not is_plain(house) or [mark for mark in weak if mark[0] == "island"]:
                continue
            try:
                good = all(papers(house))
                self.assertTrue(not good or judge(house, PAPER_KINDS + ("take",)).right)
            except TooMany:
                continue
            seen["good" if good else "not good"] += 1
            seen["weak"] += good and len(weak) > 0
        self.assertTrue(all([many > 3 for many in seen.values()]), seen)

    def test_full_marks_make_good_papers(self):
        for house in plain_houses(12000, 12, full=True):
            try:
                self.assertTrue(all(papers(house)))
            except TooMany:
                continue

    def test_the_widest_house_shows_a_mark_of_the_component(self):
        many = 0
        for house in plain_houses(13000, 30):
            try:
                wrong = [told for told in papers(house) if not told]
            except TooMany:
                continue
            for told in wrong:
                mark = blame(told.house, told.verdict.row)
                if mark is not None:
                    self.assertEqual(mark[1], told.component)
                    self.assertIn(mark, weak_marks(house))
                    many += 1
        self.assertGreater(many, 3)

    def test_a_thinned_house_is_alike(self):
        many = 0
        for house in plain_houses(14000, 40):
            try:
                thin = thinned(house)
                row = alike(thin, mended(house, *[("looks", component.name) for component in house]))
            except TooMany:
                continue
            self.assertIsNone(row)
            many += [component.looks for component in thin] != [component.given_names for component in house]
        self.assertGreater(many, 2)

    def test_needed_names_against_all_pairs_of_settings(self):
        for seed in range(40):
            house = random_house(dice(15000 + seed), False)
            for component in house:
                ranges = [(name, component.size_of(name)) for name in component.names]
                try:
                    rows = list(settings(ranges))
                except TooMany:
                    continue
                if len(rows) > 40:
                    continue
                outs = [output(component, row) for row in rows]
                needs = {
                    name for name in component.given_names for at, one in enumerate(rows) for to, two in enumerate(rows)
                    if outs[at] != outs[to] and {**one, name: 0} == {**two, name: 0}}
                self.assertEqual(needed_looks(component), tuple([name for name in component.given_names if name in needs]))


if __name__ == "__main__":
    unittest.main()
