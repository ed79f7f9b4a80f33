import doctest
import pathlib
import unittest

README = pathlib.Path(__file__).resolve().parent.parent / "README.md"


class Readme(unittest.TestCase):
    def test_examples(self):
        failed, tried = doctest.testfile(str(README), module_relative=False)
        self.assertEqual(failed, 0)
        self.assertGreater(tried, 10)


if __name__ == "__main__":
    unittest.main()
