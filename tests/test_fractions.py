"""Tests of fractions: point [3], and point [2] as far as it reaches them."""

import itertools
import math
import re
import unittest
from fractions import Fraction

from mashrunnings.errors import BadFraction, BrewError, NoShare
from mashrunnings.fractions import (
    fraction_in, fraction_text, is_fraction, is_under, less, made, over, plus, rounded_up, times,
)
from tests.samples import (
    any_thing, as_lists, changed_ones, dice, is_fraction_plainly, is_told_plainly, nested, pair_of, worth_of_pair,
)

SIGNS = [chr(code) for code in range(32, 127)] + ["\n"]
BIG = 10 ** 12
EDGES = [
    Fraction(top, below)
    for top in (-BIG, 1 - BIG, -7, -1, 0, 1, 2, 3, 6, BIG - 1, BIG)
    for below in (1, 2, 3, 6, BIG - 1, BIG)
]


def text_plainly(worth):
    return str(worth.numerator) if worth.denominator == 1 else f"{worth.numerator}/{worth.denominator}"


def in_plainly(text):
    """The Fraction that a text is just how it's written, else None."""
    found = re.fullmatch("(-?[0-9]+)(/([0-9]+))?", text)
    if not found or text.endswith("\n") or (found[3] and int(found[3]) == 0):
        return None
    worth = Fraction(int(found[1]), int(found[3] or 1))
    return worth if text_plainly(worth) == text else None


def random_fractions(seed, many):
    rolls = dice(seed)
    found = []
    for _ in range(many):
        most = rolls.choice((2, 9, 60, BIG))
        found.append(Fraction(rolls.randint(-most, most), rolls.randint(1, most)))
    return found


class IsFractionTest(unittest.TestCase):
    def check(self, thing):
        before = repr(thing)
        self.assertIs(is_fraction(thing), is_fraction_plainly(thing), before)
        self.assertEqual(repr(thing), before)

    def test_plain_ones(self):
        for thing in ((0, 1), (1, 1), (3, 1), (-7, 2), (BIG, 1), (-BIG, BIG - 1), (BIG ** 9, BIG ** 9 + 1)):
            self.assertIs(is_fraction(thing), True, repr(thing))

    def test_wrong_ones(self):
        wrong = (
            (0, 2), (0, 0), (0, -1), (1, 0), (1, -1), (-1, -1), (2, 4), (-6, 3), (5, 5), (BIG, BIG), (BIG, 10),
            [0, 1], [1, 2], (True, 1), (False, 1), (0, True), (1, True), (True, True), (None, 1), (1, None),
            ("1", 1), (1, "2"), ("1", "2"), (), (1,), (1, 2, 3), (1, 1, 1), ((1, 2), 1), (1, (1, 2)), ((1, 2),),
            None, True, False, 0, 1, "", "1/2", "12", [], [(1, 2)],
        )
        for thing in wrong:
            self.assertIs(is_fraction(thing), False, repr(thing))

    def test_all_small_pairs(self):
        for top, below in itertools.product(range(-13, 14), range(-4, 14)):
            self.check((top, below))

    def test_great_pairs_with_and_without_a_divisor(self):
        rolls = dice(31)
        for _ in range(300):
            top, below, factor = rolls.randint(-BIG, BIG), rolls.randint(1, BIG), rolls.choice((1, 2, 3, 999983))
            self.check((top * factor, below * factor))

    def test_anything_to_six_deep(self):
        rolls = dice(32)
        for _ in range(4000):
            self.check(any_thing(rolls, 6))
        for thing in changed_ones((3, 7)) + changed_ones((0, 1)):
            self.check(thing)
        for deep in range(6):
            for thing in nested((1, 2), deep) + nested([1, 2], deep) + nested(1, deep):
                self.check(thing)


class MadeTest(unittest.TestCase):
    def check(self, top, below):
        told = made(top, below)
        self.assertEqual(told, pair_of(Fraction(top, below)), (top, below))
        self.assertTrue(is_told_plainly(told))
        self.assertIs(is_fraction(told), True)

    def test_examples(self):
        self.assertEqual(made(6, 4), (3, 2))
        self.assertEqual(made(6, -4), (-3, 2))
        self.assertEqual(made(-6, -4), (3, 2))
        self.assertEqual(made(-6, 4), (-3, 2))
        self.assertEqual(made(0, 5), (0, 1))
        self.assertEqual(made(0, -5), (0, 1))
        self.assertEqual(made(8, 4), (2, 1))

    def test_all_small_numbers(self):
        for top, below in itertools.product(range(-25, 26), range(-25, 26)):
            if below:
                self.check(top, below)

    def test_great_numbers(self):
        rolls = dice(33)
        for _ in range(300):
            factor = rolls.choice((1, 6, BIG, BIG ** 5))
            self.check(rolls.randint(-BIG, BIG) * factor, rolls.choice((-1, 1)) * rolls.randint(1, BIG) * factor)
        for top, below in itertools.product((-BIG, BIG - 1, BIG), (-BIG, 1 - BIG, BIG)):
            self.check(top, below)


class ReckoningTest(unittest.TestCase):
    """plus, less, times, over, is_under, rounded_up, of tuples and of lists."""

    def pairs(self):
        found = list(itertools.product(EDGES[::4], EDGES[::3]))
        found.extend(zip(random_fractions(34, 400), random_fractions(35, 400)))
        small = [Fraction(top, below) for top in range(-4, 5) for below in range(1, 5)]
        return found + list(itertools.product(small, small))

    def ask(self, question, *worths):
        """What is told of tuples, which must be told of lists, and asked again, too."""
        things = [pair_of(worth) for worth in worths]
        told = question(*things)
        lists = as_lists(things)
        self.assertEqual(repr(question(*lists)), repr(told))
        self.assertEqual(lists, as_lists(things))
        self.assertEqual(repr(question(things[0], *lists[1:])), repr(told))
        self.assertEqual(repr(question(*things)), repr(told))
        return told

    def expect(self, question, worth, *worths):
        told = self.ask(question, *worths)
        self.assertEqual(told, pair_of(worth), (question.__name__, worths))
        self.assertTrue(is_told_plainly(told))

    def test_examples(self):
        self.assertEqual(plus((1, 2), (1, 3)), (5, 6))
        self.assertEqual(less((1, 2), (1, 3)), (1, 6))
        self.assertEqual(less((1, 3), (1, 2)), (-1, 6))
        self.assertEqual(times((2, 3), (3, 4)), (1, 2))
        self.assertEqual(over((1, 2), (3, 4)), (2, 3))
        self.assertEqual(over((1, 2), (-3, 4)), (-2, 3))
        self.assertEqual(plus((1, 2), (-1, 2)), (0, 1))
        self.assertEqual(less([5, 6], [5, 6]), (0, 1))
        self.assertEqual(times([0, 1], [-5, 6]), (0, 1))
        self.assertEqual(over([0, 1], [-5, 6]), (0, 1))

    def test_plus_less_times(self):
        for one, other in self.pairs():
            self.expect(plus, one + other, one, other)
            self.expect(less, one - other, one, other)
            self.expect(times, one * other, one, other)

    def test_over(self):
        for one, other in self.pairs():
            if other:
                self.expect(over, one / other, one, other)

    def test_over_nought_is_refused(self):
        for one in EDGES:
            for first in (pair_of(one), list(pair_of(one))):
                for nought in ((0, 1), [0, 1]):
                    with self.assertRaises(NoShare) as caught:
                        over(first, nought)
                    self.assertIs(type(caught.exception), NoShare)
                    self.assertEqual((list(first), list(nought)), (list(pair_of(one)), [0, 1]))

    def test_is_under(self):
        for one, other in self.pairs():
            self.assertIs(self.ask(is_under, one, other), one < other, (one, other))
        for one in EDGES:
            self.assertIs(is_under(pair_of(one), pair_of(one)), False)

    def test_rounded_up(self):
        examples = {(7, 2): 4, (-7, 2): -3, (3, 1): 3, (-3, 1): -3, (0, 1): 0, (1, BIG): 1, (-1, BIG): 0}
        for pair, number in examples.items():
            self.assertEqual(rounded_up(pair), number)
        for one in EDGES + random_fractions(36, 300):
            told = self.ask(rounded_up, one)
            self.assertIs(type(told), int)
            self.assertEqual(told, math.ceil(one))

    def test_told_ones_are_handed_in_though_greater(self):
        worths = random_fractions(37, 40)
        total, product = (0, 1), (1, 1)
        for worth in worths:
            pair = pair_of(worth)
            total = plus(total, pair)
            product = times(product, pair if worth else (BIG, 7))
        self.assertEqual(total, pair_of(sum(worths)))
        self.assertEqual(product, pair_of(math.prod(worth or Fraction(BIG, 7) for worth in worths)))
        share = over(total, product)
        self.assertEqual(worth_of_pair(share), worth_of_pair(total) / worth_of_pair(product))
        self.assertEqual(times(share, product), total)
        self.assertEqual(less(total, total), (0, 1))
        self.assertIs(is_under(total, plus(total, (1, BIG))), True)
        self.assertEqual(rounded_up(total), math.ceil(sum(worths)))
        self.assertEqual(fraction_in(fraction_text(total)), total)


class TextTest(unittest.TestCase):
    def refuse(self, text):
        with self.assertRaises(BadFraction, msg=repr(text)) as caught:
            fraction_in(text)
        self.assertIs(type(caught.exception), BadFraction)
        self.assertIsInstance(caught.exception, BrewError)

    def check_in(self, text):
        worth = in_plainly(text)
        if worth is None:
            self.refuse(text)
        else:
            told = fraction_in(text)
            self.assertEqual(told, pair_of(worth), repr(text))
            self.assertTrue(is_told_plainly(told))

    def test_text_examples(self):
        examples = {
            (3, 1): "3", (-7, 2): "-7/2", (0, 1): "0", (-4, 1): "-4", (1, 2): "1/2", (100, 1): "100",
            (BIG, 1): "1000000000000", (-BIG, BIG - 1): "-1000000000000/999999999999",
        }
        for pair, text in examples.items():
            self.assertEqual(fraction_text(pair), text)
            self.assertEqual(fraction_text(list(pair)), text)
            self.assertEqual(fraction_in(text), pair)

    def test_texts_of_many(self):
        for worth in EDGES + random_fractions(38, 400):
            text = fraction_text(pair_of(worth))
            self.assertEqual(text, text_plainly(worth))
            told = fraction_in(text)
            self.assertEqual(told, pair_of(worth))
            self.assertTrue(is_told_plainly(told))

    def test_texts_about_the_powers_of_ten(self):
        for figures in (1, 2, 59, 60, 61, 119, 120, 121, 180, 600):
            for number in (10 ** figures - 1, 10 ** figures, 10 ** figures + 1, 7 * 10 ** figures):
                self.assertEqual(fraction_text((number, 1)), str(number))
                self.assertEqual(fraction_text((-number, 1)), str(-number))
                self.assertEqual(fraction_text((1, number)), f"1/{number}")

    def test_texts_longer_than_python_writes_at_once(self):
        great = 10 ** 9000
        text = "1" + "0" * 8999 + "7"
        self.assertEqual(fraction_text((great + 7, 1)), text)
        self.assertEqual(fraction_text((-great - 7, great)), "-" + text + "/1" + "0" * 9000)
        self.assertEqual(fraction_in(text), (great + 7, 1))

    def test_wrong_texts_are_refused(self):
        wrong = (
            "", " ", "\n", "-", "/", "--1", "-0", "00", "03", "-03", "+3", "3 ", " 3", "3\n", "\n3", "1_0", "1e3", "0x1",
            "3/1", "0/1", "0/5", "-0/5", "2/4", "6/3", "1/0", "0/0", "-1/0", "1/-2", "-1/-2", "1/+2", "1/02", "01/2",
            "1/", "/2", "-/2", "1//2", "1/2/3", "1 /2", "1/ 2", "1/2 ", "1/2\n", "1.5", "3.", "one", "1,000", "- 1",
            "(1, 2)", "None", "True", "~", "1" * 59 + " ", "0" * 60, "-" * 60, "/" * 60, "4" * 29 + "/" + "2" * 30,
        )
        for text in wrong:
            self.assertIsNone(in_plainly(text), repr(text))
            self.refuse(text)

    def test_sixty_signs(self):
        for text in ("9" * 60, "-" + "1" * 59, "1" + "0" * 29 + "/" + "9" * 29, "1" * 29 + "/" + "1" * 29 + "2"):
            self.assertLessEqual(len(text), 60)
            self.check_in(text)
        self.assertEqual(fraction_in("9" * 60), (10 ** 60 - 1, 1))

    def test_all_short_texts_of_some_signs(self):
        for many in range(6):
            for signs in itertools.product("-/0126", repeat=many):
                self.check_in("".join(signs))

    def test_all_texts_of_one_or_two_signs(self):
        for many in (1, 2):
            for signs in itertools.product(SIGNS, repeat=many):
                self.check_in("".join(signs))

    def test_right_texts_with_one_sign_put_in_or_changed_or_left_out(self):
        for right in ("3", "-7/2", "120", "-1000000000000/999999999999", "10/3"):
            for at in range(len(right) + 1):
                self.check_in(right[:at] + right[at + 1:])
                for sign in SIGNS:
                    self.check_in(right[:at] + sign + right[at:])
                    self.check_in(right[:at] + sign + right[at + 1:])


if __name__ == "__main__":
    unittest.main()
