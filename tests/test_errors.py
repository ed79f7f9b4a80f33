import unittest

from drawnanew import errors
from drawnanew.errors import ScreenError

FIELDS = {
    "BadForm": ("part",), "NoName": ("name",), "TooMany": ("count",), "BadPatch": ("patch",),
    "TwiceMarked": ("mark",), "NoNode": ("mark",), "BadPlace": ("place",), "RootStays": ("mark",),
    "NotOnePage": ("mark",), "BadRule": ("rule",), "BadRow": ("row",), "NoItem": ("item",),
    "BadComponent": ("part",), "BadHouse": ("part",), "Unknown": ("name",), "Ring": ("name",),
    "NoInstance": ("place",), "NotDue": ("place",), "BadNames": ("told",), "BadFence": ("fence",),
    "NoAnswer": ("number",), "ArmedTwice": ("owner", "word"), "NotArmed": ("owner", "word"),
    "OldValue": ("owner", "word"), "BadEvent": ("event",), "NoMark": ("mark",), "Wrong": ("row",),
    "Blamed": ("mark",), "NoPaper": ("component",), "BadLine": ("line", "word"),
}


class Errors(unittest.TestCase):
    def test_base(self):
        self.assertEqual(ScreenError.__bases__, (ValueError,))
        self.assertEqual(ScreenError.__module__, "drawnanew.errors")

    def test_each_error_is_a_direct_subclass(self):
        for name in FIELDS:
            with self.subTest(name):
                made = getattr(errors, name)
                self.assertEqual(made.__bases__, (ScreenError,))
                self.assertEqual(made.__module__, "drawnanew.errors")

    def test_there_is_no_other_error(self):
        classes = [name for name, thing in vars(errors).items() if isinstance(thing, type)]
        self.assertEqual(sorted(classes), sorted([*FIELDS, "ScreenError"]))

    def test_fields_in_order(self):
        for name, fields in FIELDS.items():
            with self.subTest(name):
                given = [("told", at) for at in range(len(fields))]
                error = getattr(errors, name)(*given)
                self.assertEqual([getattr(error, field) for field in fields], given)

    def test_fields_by_keyword(self):
        for name, fields in FIELDS.items():
            with self.subTest(name):
                error = getattr(errors, name)(**{field: field for field in fields})
                self.assertEqual([getattr(error, field) for field in fields], list(fields))

    def test_number_of_fields(self):
        for name, fields in FIELDS.items():
            with self.subTest(name):
                with self.assertRaises(TypeError):
                    getattr(errors, name)(*range(len(fields) + 1))
                with self.assertRaises(TypeError):
                    getattr(errors, name)()

    def test_each_is_caught_as_a_value_error(self):
        with self.assertRaises(ValueError):
            raise errors.BadLine(3, 4)
        with self.assertRaises(ScreenError):
            raise errors.NoNode("a")


if __name__ == "__main__":
    unittest.main()
