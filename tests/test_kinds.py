"""Tests of the plain kinds of point [2]: numbers, NAMEs, pairs, rows."""

import unittest

from mashrunnings.kinds import is_name, is_number, is_number_from, is_pair, is_row
from tests.samples import WRONG_LEAVES


class KindsTest(unittest.TestCase):
    def test_numbers_are_whole_and_never_true_or_false(self):
        for number in (0, 1, -1, 10 ** 12, -10 ** 40):
            self.assertIs(is_number(number), True)
        for thing in (True, False, None, "", "1", (), (1,), [], [1]):
            self.assertIs(is_number(thing), False, repr(thing))

    def test_numbers_from_least_to_most(self):
        for number in (3, 4, 5):
            self.assertIs(is_number_from(number, 3, 5), True)
        for thing in (2, 6, -4, None, "4", (4,), [4], ()):
            self.assertIs(is_number_from(thing, 3, 5), False, repr(thing))
        for thing in (True, False):
            self.assertIs(is_number_from(thing, 0, 1), False, repr(thing))

    def test_names_are_one_to_eight_letters(self):
        for name in ("a", "z", "pale", "abcdefgh", "zzzzzzzz"):
            self.assertIs(is_name(name), True, name)
        for thing in ("", "abcdefghi", "A", "aB", "a b", " a", "a ", "a1", "a_", "a\n", "a-b", "`", "{", "a`", "a{"):
            self.assertIs(is_name(thing), False, repr(thing))

    def test_every_other_sign_is_no_letter(self):
        for code in [10] + list(range(32, 127)):
            sign = chr(code)
            self.assertIs(is_name(sign), "a" <= sign <= "z", repr(sign))
            self.assertIs(is_name("a" + sign), "a" <= sign <= "z", repr(sign))

    def test_only_texts_are_names(self):
        for thing in WRONG_LEAVES + (("a",), ["a"], ("a", "b")):
            self.assertIs(is_name(thing), thing == "pale", repr(thing))

    def test_pairs_are_tuples_of_two(self):
        self.assertIs(is_pair((1, None)), True)
        for thing in ((), (1,), (1, 2, 3), [1, 2], "ab", 2, None, True):
            self.assertIs(is_pair(thing), False, repr(thing))

    def test_rows_are_lists_and_tuples(self):
        for thing in ((), [], (1,), [1, None], ((),)):
            self.assertIs(is_row(thing), True, repr(thing))
        for thing in (None, True, False, 0, 2, "", "ab"):
            self.assertIs(is_row(thing), False, repr(thing))


if __name__ == "__main__":
    unittest.main()
