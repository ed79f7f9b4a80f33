import itertools
import unittest

from drawnanew.errors import BadForm, NoName
from drawnanew.forms import Form
from tests.helpers import dice

ONE = ("is", 1)
SIZE = ("get", "size")
DOCUMENTED = ("pick", ("get", "open"), ("is", 1), ("sum", SIZE, ("is", 9)))


def deep(levels, word="sum"):
    form = ("is", 1)
    for _ in range(levels - 1):
        form = ("pick", form, ONE, SIZE) if word == "pick" else (word, form, ONE)
    return form


def random_form(chance, levels):
    word = chance.choice(["is", "get"] if levels == 1 else ["is", "get", "sum", "same", "pick"])
    if word == "is":
        return ("is", chance.randrange(10))
    if word == "get":
        return ("get", chance.choice(["a", "b", "size"]))
    many = 3 if word == "pick" else 2
    return (word, *[random_form(chance, levels - 1) for _ in range(many)])


def worked(form, values):
    """The value of a form by a way of its own: all parts are worked out."""
    if form[0] == "is":
        return form[1]
    if form[0] == "get":
        return values[form[1]]
    parts = [worked(part, values) for part in form[1:]]
    return {
        "sum": lambda: sum(parts) % 10,
        "same": lambda: int(parts[0] == parts[1]),
        "pick": lambda: parts[1] if parts[0] else parts[2],
    }[form[0]]()


class Values(unittest.TestCase):
    def test_document(self):
        form = Form(DOCUMENTED)
        self.assertEqual(
            (form({"open": 0, "size": 3}), str(form)), (2, "pick get open is 1 sum get size is 9")
        )
        self.assertEqual(form({"open": 1, "size": 3}), 1)

    def test_is(self):
        for value in range(10):
            self.assertEqual(Form(("is", value))({}), value)

    def test_get(self):
        self.assertEqual(Form(SIZE)({"size": 7, "open": 1}), 7)

    def test_sum_is_modulo_ten(self):
        for first, second in itertools.product(range(10), repeat=2):
            self.assertEqual(Form(("sum", ("is", first), ("is", second)))({}), (first + second) % 10)

    def test_same(self):
        for first, second in itertools.product(range(3), repeat=2):
            value = Form(("same", ("is", first), ("is", second)))({})
            self.assertEqual(value, int(first == second))
            self.assertIs(type(value), int)

    def test_pick(self):
        for value in range(10):
            picked = Form(("pick", ("is", value), ("is", 4), ("is", 5)))({})
            self.assertEqual(picked, 4 if value else 5)

    def test_other_part_of_pick_is_not_worked_out(self):
        form = Form(("pick", ("get", "open"), ("get", "a"), ("get", "b")))
        self.assertEqual(form({"open": 2, "a": 3}), 3)
        self.assertEqual(form({"open": 0, "b": 4}), 4)
        with self.assertRaises(NoName) as caught:
            form({"open": 0, "a": 3})
        self.assertEqual(caught.exception.name, "b")

    def test_no_name_is_the_first_looked_for(self):
        cases = [
            (("sum", ("get", "a"), ("get", "b")), {}, "a"),
            (("sum", ("get", "a"), ("get", "b")), {"a": 1}, "b"),
            (("same", ("get", "b"), ("get", "a")), {}, "b"),
            (("pick", ("get", "c"), ("get", "a"), ("get", "b")), {}, "c"),
            (("pick", ("get", "c"), ("get", "a"), ("get", "b")), {"c": 1}, "a"),
            (("pick", ("sum", ONE, ("get", "z")), ("get", "a"), ("get", "b")), {"a": 1, "b": 1}, "z"),
        ]
        for form, values, name in cases:
            with self.subTest(form=form, values=values):
                with self.assertRaises(NoName) as caught:
                    Form(form)(values)
                self.assertEqual(caught.exception.name, name)

    def test_values_stay_as_they_are(self):
        values = {"open": 0, "size": 3}
        Form(DOCUMENTED)(values)
        self.assertEqual(values, {"open": 0, "size": 3})

    def test_forms_at_random(self):
        chance = dice(2)
        for _ in range(300):
            told = random_form(chance, chance.randrange(1, 6))
            values = {name: chance.randrange(10) for name in ("a", "b", "size")}
            self.assertEqual(Form(told)(values), worked(told, values))


class Wordings(unittest.TestCase):
    def test_written_form(self):
        self.assertEqual(str(Form(ONE)), "is 1")
        self.assertEqual(str(Form(SIZE)), "get size")
        self.assertEqual(str(Form(("same", ONE, SIZE))), "same is 1 get size")

    def test_parts(self):
        for form in (ONE, SIZE, DOCUMENTED, deep(5), deep(5, "pick"), deep(2, "same")):
            self.assertEqual(Form(form).parts, form)
            self.assertIs(type(Form(form).parts), tuple)

    def test_names(self):
        self.assertEqual(Form(ONE).names, ())
        self.assertEqual(Form(SIZE).names, ("size",))
        self.assertEqual(Form(DOCUMENTED).names, ("open", "size"))
        again = ("sum", ("sum", ("get", "b"), ("get", "a")), ("same", ("get", "b"), ("get", "c")))
        self.assertEqual(Form(again).names, ("b", "a", "c"))

    def test_names_and_words_at_random(self):
        chance = dice(3)
        for _ in range(200):
            form = Form(random_form(chance, 5))
            words = str(form).split(" ")
            names = [name for word, name in zip(words, words[1:]) if word == "get"]
            self.assertEqual(form.names, tuple(dict.fromkeys(names)))

    def test_one_to_five_levels(self):
        for levels in range(1, 6):
            for word in ("sum", "same", "pick"):
                self.assertEqual(Form(deep(levels, word)).parts, deep(levels, word))


class Wrong(unittest.TestCase):
    def refused(self, parts):
        with self.assertRaises(BadForm) as caught:
            Form(parts)
        return caught.exception.part

    def test_whole(self):
        wholes = [
            (), ("is",), ("is", 1, 2), ("get",), ("get", "a", "b"), ("sum", ONE), ("sum", ONE, ONE, ONE),
            ("same", ONE), ("pick", ONE, ONE), ("pick", ONE, ONE, ONE, ONE), ("times", ONE, ONE), (1, ONE),
            (None,), ([], 1), ["is", 1], "is 1", 1, None, {"is": 1}, (("is",), 1), ("", 1), ("IS", 1),
        ]
        for whole in wholes:
            with self.subTest(whole):
                self.assertEqual(self.refused(whole), whole)
                self.assertEqual(self.refused(("sum", ONE, whole)), whole)

    def test_values(self):
        for value in (-1, 10, 10 ** 39, True, False, "1", None, (1,)):
            with self.subTest(value):
                part = self.refused(("sum", ONE, ("is", value)))
                self.assertEqual(part, ("is", value))
                self.assertIs(part[1], value)

    def test_names(self):
        for name in ("", "abcdefghi", "A", "a1", "a b", "aB", "-", "\xe9", "\u0430", 1, True, None, ("a",), ["a"]):
            with self.subTest(name):
                self.assertEqual(self.refused(("get", name)), ("get", name))

    def test_names_that_are_some(self):
        for name in ("a", "z", "abcdefgh", "is", "get"):
            self.assertEqual(Form(("get", name)).names, (name,))

    def test_first_wrong_part(self):
        bad, worse = ("is", 10), ("get", "A")
        cases = [
            (("sum", bad, worse), bad),
            (("sum", worse, bad), worse),
            (("sum", ("sum", ONE, worse), bad), worse),
            (("sum", ONE, ("pick", ONE, bad, worse)), bad),
            (("sum", bad), ("sum", bad)),
            (("sum", ("same", bad), worse), ("same", bad)),
            (("pick", ONE, ("same", ONE, worse), bad), worse),
            (("pick", ("sum", ONE, ("sum", ONE, worse)), bad, bad), worse),
        ]
        for form, part in cases:
            with self.subTest(form):
                self.assertEqual(self.refused(form), part)

    def test_too_many_levels(self):
        for levels in (6, 7, 30):
            for word in ("sum", "same", "pick"):
                self.assertEqual(self.refused(deep(levels, word)), deep(levels, word))
        last = ("pick", ONE, ONE, deep(5))
        self.assertEqual(self.refused(last), last)

    def test_wrong_parts_come_ahead_of_levels(self):
        self.assertEqual(self.refused(("sum", deep(6), ("is", 10))), ("is", 10))
        bottom = ("get", "")
        form = bottom
        for _ in range(7):
            form = ("same", ONE, form)
        self.assertEqual(self.refused(form), bottom)


class Made(unittest.TestCase):
    def test_constant(self):
        self.assertEqual(Form.constant(3), Form(("is", 3)))
        for value in (10, -1, True):
            with self.assertRaises(BadForm) as caught:
                Form.constant(value)
            self.assertEqual(caught.exception.part, ("is", value))

    def test_named(self):
        self.assertEqual(Form.named("size"), Form(SIZE))
        for name in ("", "Size", "abcdefghi"):
            with self.assertRaises(BadForm) as caught:
                Form.named(name)
            self.assertEqual(caught.exception.part, ("get", name))

    def test_plus(self):
        first, second = Form(SIZE), Form(ONE)
        self.assertEqual((first + second).parts, ("sum", SIZE, ONE))
        self.assertEqual((first.parts, second.parts), (SIZE, ONE))
        self.assertEqual((second + first)({"size": 9}), 0)

    def test_plus_that_is_too_deep(self):
        self.assertEqual((Form(deep(4)) + Form(deep(4))).parts, ("sum", deep(4), deep(4)))
        for first, second in ((deep(5), ONE), (ONE, deep(5))):
            with self.assertRaises(BadForm) as caught:
                Form(first) + Form(second)
            self.assertEqual(caught.exception.part, ("sum", first, second))

    def test_summed(self):
        one, size = Form(ONE), Form(SIZE)
        self.assertEqual(Form.summed(one), one)
        self.assertEqual(Form.summed(one, size), one + size)
        self.assertEqual(Form.summed(one, size, one), (one + size) + one)
        self.assertEqual(Form.summed(*[one] * 5).parts, deep(5))

    def test_summed_that_is_too_deep(self):
        one = Form(ONE)
        with self.assertRaises(BadForm) as caught:
            Form.summed(*[one] * 8)
        self.assertEqual(caught.exception.part, deep(6))

    def test_equal(self):
        self.assertEqual(Form(("sum", ONE, SIZE)), Form(("sum", ("is", 1), ("get", "size"))))
        self.assertNotEqual(Form(("sum", ONE, SIZE)), Form(("sum", SIZE, ONE)))
        self.assertFalse(Form(ONE) == ONE)
        self.assertFalse(Form(ONE) == None)  # noqa: E711
        self.assertTrue(Form(ONE) != Form(SIZE))


if __name__ == "__main__":
    unittest.main()
