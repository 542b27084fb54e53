import inspect
import unittest

from shareones import errors
from shareones.errors import BadSheet, BadText, NoOne, NoRound, NoSuch, OnesError, Unlike


class Errors(unittest.TestCase):
    def test_each_refusal_stands_straight_under_ones_error(self):
        self.assertEqual(OnesError.__bases__, (ValueError,))
        for refusal in (Unlike, NoSuch, NoOne, NoRound, BadText, BadSheet):
            self.assertEqual(refusal.__bases__, (OnesError,))

    def test_there_are_no_other_classes(self):
        found = {name for name, _ in inspect.getmembers(errors, inspect.isclass)}
        self.assertEqual(found, {"OnesError", "Unlike", "NoSuch", "NoOne", "NoRound", "BadText", "BadSheet"})

    def test_they_are_made_with_words(self):
        for refusal in (OnesError, Unlike, NoSuch, NoOne, NoRound, BadText):
            self.assertEqual(str(refusal("some words")), "some words")

    def test_bad_sheet_has_its_row(self):
        for row in (0, 1, 99):
            made = BadSheet(row)
            self.assertEqual(made.row, row)
            self.assertIn(str(row), str(made))
        self.assertEqual(BadSheet(row=7).row, 7)

    def test_a_refusal_is_caught_as_a_value_error(self):
        with self.assertRaises(ValueError):
            raise Unlike("rows")
        with self.assertRaises(OnesError):
            raise BadSheet(3)


if __name__ == "__main__":
    unittest.main()
