import unittest

from drawnanew.shapes import (
    button_shape, col_shape, each_shape, levels, numbered, put_shape, row_shape, text_shape, when_shape,
)

SIZE = ("get", "size")
ITEM = ("get", "item")


class Tuples(unittest.TestCase):
    def test_each_function_makes_its_tuple(self):
        text, button = text_shape(SIZE), button_shape("go")
        self.assertEqual(text, ("text", SIZE))
        self.assertEqual(button, ("button", "go"))
        self.assertEqual(row_shape(text, button), ("row", (text, button)))
        self.assertEqual(col_shape(text), ("col", (text,)))
        self.assertEqual(when_shape(SIZE, text, button), ("when", SIZE, text, button))
        self.assertEqual(put_shape("leaf", SIZE, ITEM), ("put", "leaf", (SIZE, ITEM)))
        self.assertEqual(
            each_shape(SIZE, ((1, 2), ()), ITEM, "leaf", ITEM, SIZE),
            ("each", SIZE, ((1, 2), ()), ITEM, "leaf", (ITEM, SIZE)),
        )

    def test_no_parts_and_no_forms(self):
        self.assertEqual(row_shape(), ("row", ()))
        self.assertEqual(col_shape(), ("col", ()))
        self.assertEqual(put_shape("leaf"), ("put", "leaf", ()))
        self.assertEqual(each_shape(SIZE, ((1,),), ITEM, "leaf"), ("each", SIZE, ((1,),), ITEM, "leaf", ()))

    def test_nothing_is_checked(self):
        self.assertEqual(text_shape(None), ("text", None))
        self.assertEqual(button_shape("Not a word"), ("button", "Not a word"))
        self.assertEqual(row_shape(1, "x"), ("row", (1, "x")))
        self.assertEqual(col_shape([]), ("col", ([],)))
        self.assertEqual(when_shape(1, 2, 3), ("when", 1, 2, 3))
        self.assertEqual(put_shape(4, 5), ("put", 4, (5,)))
        self.assertEqual(each_shape(1, 2, 3, 4, 5), ("each", 1, 2, 3, 4, (5,)))


class Numbers(unittest.TestCase):
    def test_a_shape_stands_ahead_of_its_parts(self):
        first, last = text_shape(SIZE), button_shape("go")
        inner = row_shape(first, last)
        behind = put_shape("leaf")
        top = col_shape(inner, behind)
        self.assertEqual(numbered(top), (top, inner, first, last, behind))

    def test_both_parts_of_when_are_numbered(self):
        inner = col_shape(text_shape(("is", 1)))
        other = each_shape(SIZE, ((1,),), ITEM, "leaf")
        choice = when_shape(SIZE, inner, other)
        last = button_shape("go")
        top = row_shape(choice, last)
        self.assertEqual(numbered(top), (top, choice, inner, text_shape(("is", 1)), other, last))

    def test_a_shape_without_parts(self):
        for shape in (text_shape(SIZE), button_shape("go"), put_shape("leaf"), row_shape(), col_shape(),
                      each_shape(SIZE, ((1, 2),), ITEM, "leaf", ITEM)):
            self.assertEqual(numbered(shape), (shape,))

    def test_equal_shapes_have_numbers_of_their_own(self):
        text = text_shape(SIZE)
        self.assertEqual(len(numbered(col_shape(text, text, text))), 4)


class Levels(unittest.TestCase):
    def test_shapes_without_parts_have_one(self):
        for shape in (text_shape(("sum", SIZE, SIZE)), button_shape("go"), put_shape("leaf", SIZE),
                      each_shape(SIZE, ((1, 2),), ITEM, "leaf", ITEM), row_shape(), col_shape()):
            self.assertEqual(levels(shape), 1)

    def test_one_more_than_the_deepest_part(self):
        self.assertEqual(levels(col_shape(text_shape(SIZE))), 2)
        self.assertEqual(levels(row_shape(row_shape(), text_shape(SIZE))), 2)
        self.assertEqual(levels(col_shape(text_shape(SIZE), row_shape(col_shape()), text_shape(SIZE))), 3)

    def test_when_counts_both_parts(self):
        deep = row_shape(text_shape(SIZE))
        self.assertEqual(levels(when_shape(SIZE, deep, button_shape("go"))), 3)
        self.assertEqual(levels(when_shape(SIZE, button_shape("go"), deep)), 3)
        self.assertEqual(levels(when_shape(("sum", SIZE, SIZE), button_shape("go"), button_shape("go"))), 2)


if __name__ == "__main__":
    unittest.main()
