"""Tests of the refusals: point [2] and the interface."""

import unittest

from mashrunnings import errors
from mashrunnings.errors import BadFraction, BadRow, BrewError, NoEntry, NoShare, NoThing, TooMuch

WITH_WORDS = (BadFraction, NoShare, TooMuch, NoEntry, NoThing)
ALL = WITH_WORDS + (BadRow,)


class RefusalsTest(unittest.TestCase):
    def test_brew_error_stands_under_value_error(self):
        self.assertEqual(BrewError.__bases__, (ValueError,))

    def test_each_stands_straight_under_brew_error(self):
        for refusal in ALL:
            self.assertEqual(refusal.__bases__, (BrewError,), refusal.__name__)

    def test_none_stands_under_another_one(self):
        for one in ALL:
            for other in ALL:
                self.assertEqual(issubclass(one, other), one is other)

    def test_they_are_defined_in_errors(self):
        for refusal in ALL + (BrewError,):
            self.assertEqual(refusal.__module__, "mashrunnings.errors")
            self.assertIs(getattr(errors, refusal.__name__), refusal)

    def test_they_are_made_with_words(self):
        for refusal in WITH_WORDS + (BrewError,):
            with self.assertRaises(ValueError) as caught:
                raise refusal("some words")
            self.assertIs(type(caught.exception), refusal)

    def test_bad_row_has_its_row(self):
        for row in (0, 1, 7, 400):
            with self.assertRaises(BrewError) as caught:
                raise BadRow(row)
            self.assertIs(type(caught.exception), BadRow)
            self.assertEqual(caught.exception.row, row)
            self.assertIs(type(caught.exception.row), int)


if __name__ == "__main__":
    unittest.main()
