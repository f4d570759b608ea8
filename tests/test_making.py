"""Tests of wishes made or not: point [8], and points [1] and [2] as far as they reach them."""

import unittest
from fractions import Fraction

from mashrunnings.making import made_of, shows_none
from mashrunnings.mixings import shows_mixing
from tests.samples import (
    QuestionTest, are_prices_plainly, changed_ones, deep_things, dice, is_told_mixing, mixing_plainly, none_plainly,
    pair_of, random_runnings, random_wishes, random_worths, reached_wishes, running_worths, whole_brew, with_part,
    worth_of_pair,
)

WATER, SMALL, STRONG = ((5, 1), (0, 1)), ((10, 1), (200, 1)), ((4, 1), (320, 1))
BIG = 10 ** 12
DROP = Fraction(1, BIG)
GREATEST = [
    ((BIG, 1), (BIG, 1)), ((BIG - 1, BIG), (1, BIG)), ((1, BIG), (199, BIG)), ((BIG, BIG - 1), (BIG - 3, BIG - 7)),
    ((BIG - 11, BIG - 2), (BIG, 7)), ((BIG - 1, 7), (BIG, BIG - 1)),
]


def great_runnings(rolls, many):
    """Runnings of tops and belows near the bound, of some ten thousand gallons, strengths to about 200."""
    runnings = []
    for _ in range(many):
        gallons = Fraction(rolls.randint(BIG // 2, BIG), rolls.randint(BIG // 40000, BIG // 3000))
        points = Fraction(rolls.randint(BIG // 2, BIG), int(BIG / (gallons * rolls.randint(2, 150))) + 1)
        runnings.append((pair_of(gallons), pair_of(points)))
    return runnings


class MadeOfTest(QuestionTest):
    def check(self, runnings, wishes):
        """Just one of both is told, and it shows what it must; whether they can be made."""
        told = self.ask(made_of, runnings, wishes)
        self.assertEqual((type(told), len(told)), (tuple, 2))
        mixing, prices = told
        if mixing is None:
            self.assertIs(type(prices), tuple)
            self.assertIs(shows_none(runnings, wishes, prices), True)
            self.assertTrue(none_plainly(runnings, wishes, prices))
            return False
        self.assertIsNone(prices)
        self.assertTrue(is_told_mixing(mixing), repr(mixing))
        self.assertIs(shows_mixing(runnings, wishes, mixing), True)
        self.assertTrue(mixing_plainly(runnings, wishes, mixing))
        return True

    def test_examples(self):
        self.assertEqual(made_of([SMALL], [("ale", 5, 20, 20)]), ([[(0, (5, 1))]], None))
        self.assertEqual(made_of([SMALL], [("ale", 10, 20, 20)]), ([[(0, (10, 1))]], None))
        self.assertEqual(made_of([SMALL, STRONG], [("ale", 6, 50, 50)]), ([[(0, (3, 1)), (1, (3, 1))]], None))
        self.assertTrue(self.check([SMALL], [("ale", 10, 20, 20)]))
        self.assertFalse(self.check([SMALL], [("ale", 11, 20, 20)]))
        self.assertTrue(self.check([SMALL, STRONG], [("ale", 8, 50, 50)]))
        self.assertFalse(self.check([SMALL, STRONG], [("ale", 9, 50, 50)]))
        self.assertTrue(self.check([SMALL, STRONG], [("ale", 4, 50, 50), ("beer", 4, 50, 50)]))
        self.assertFalse(self.check([SMALL, STRONG], [("ale", 4, 50, 50), ("beer", 5, 50, 50)]))

    def test_many_drawn_ones(self):
        rolls = dice(81)
        found = []
        for at in range(360):
            runnings = random_runnings(rolls, 1 + at % 6, rolls.choice((50, BIG)))
            wishes = reached_wishes(rolls, 1 + at % 4, runnings, rolls.choice((9, 60, 900)))
            found.append(self.check(runnings, wishes))
        self.assertGreater(found.count(True), 60)
        self.assertGreater(found.count(False), 60)

    def test_ones_that_may_not_be_reached(self):
        rolls = dice(82)
        for at in range(200):
            runnings = random_runnings(rolls, 1 + at % 6)
            self.check(runnings, random_wishes(rolls, 1 + at % 4, runnings))

    def test_a_wish_that_no_running_reaches(self):
        for wish in (("ale", 1, 81, 200), ("ale", 1, 0, 19)):
            self.assertFalse(self.check([SMALL, STRONG], [wish]))
            self.assertFalse(self.check([SMALL, STRONG], [("beer", 1, 50, 50), wish]))
            self.assertFalse(self.check([SMALL, STRONG], [wish, ("beer", 1, 50, 50)]))

    def test_just_all_that_there_is_and_a_drop_less(self):
        rolls = dice(83)
        for at in range(120):
            runnings, wishes, mixing = whole_brew(rolls, 1 + at % 6, 1 + at % 4)
            self.assertTrue(mixing_plainly(runnings, wishes, mixing))
            self.assertTrue(self.check(runnings, wishes))
            number = rolls.randrange(len(runnings))
            gallons, strength = running_worths(runnings)[number]
            lesser = (pair_of(gallons - DROP), pair_of((gallons - DROP) * strength))
            self.assertFalse(self.check(with_part(runnings, (number,), lesser), wishes))
            beer, many, least, most = wishes[0]
            self.assertFalse(self.check(runnings, with_part(wishes, (0,), (beer, many + 1, least, most))))

    def test_water_alone_and_with_others(self):
        self.assertTrue(self.check([WATER], [("water", 5, 0, 0)]))
        self.assertFalse(self.check([WATER], [("water", 6, 0, 0)]))
        self.assertFalse(self.check([WATER], [("ale", 1, 1, 200)]))
        self.assertTrue(self.check([WATER, STRONG], [("ale", 8, 40, 40)]))
        self.assertTrue(self.check([WATER, STRONG], [("ale", 9, 30, 36)]))
        self.assertFalse(self.check([WATER, STRONG], [("ale", 9, 36, 40)]))
        self.assertFalse(self.check([WATER, STRONG], [("ale", 9, 30, 35)]))

    def test_runnings_of_one_strength(self):
        runnings = [SMALL, ((1, 2), (10, 1)), ((3, 1), (60, 1))]
        self.assertTrue(self.check(runnings, [("ale", 13, 20, 20)]))
        self.assertFalse(self.check(runnings, [("ale", 14, 20, 20)]))
        self.assertTrue(self.check(runnings, [("ale", 6, 0, 20), ("beer", 7, 20, 20)]))
        self.assertFalse(self.check(runnings, [("ale", 1, 21, 30)]))

    def test_runnings_and_wishes_much_alike(self):
        # Many blends do as well as one another, and many runnings give out at once.
        rolls = dice(89)
        found = []
        for _ in range(400):
            runnings = []
            for _ in range(rolls.randint(2, 6)):
                gallons = rolls.choice((1, 2, 2))
                runnings.append(((gallons, 1), (gallons * rolls.choice((0, 50, 100)), 1)))
            marks = rolls.choices((0, 25, 50, 50, 75, 100), k=rolls.randint(1, 4))
            wishes = [(beer, rolls.randint(1, 3), mark, mark) for beer, mark in zip("abcd", marks)]
            found.append(self.check(runnings, wishes))
        self.assertEqual(set(found), {True, False})

    def test_the_greatest(self):
        rolls = dice(84)
        found = []
        for at in range(12):
            runnings = great_runnings(rolls, 6)
            found.append(self.check(runnings, reached_wishes(rolls, 4, runnings, 10 ** 4)))
        self.assertEqual(set(found), {True, False})
        for most in (1, 10 ** 4):
            wishes = [("a", most, 0, 0), ("b", most, 0, 1), ("c", most, 1, 1), ("d", most, 199, 200)]
            self.check(GREATEST, wishes)
            self.check(GREATEST, wishes[1:])
            self.check(GREATEST[::-1], wishes[2:])

    def test_runnings_with_nothing_left_are_not_mixed(self):
        empty = ((0, 1), (0, 1))
        told = made_of([empty, SMALL, empty], [("ale", 10, 20, 20)])
        self.assertEqual(told, ([[(1, (10, 1))]], None))
        mixing, prices = made_of([empty, SMALL, empty], [("ale", 11, 20, 20)])
        self.assertIsNone(mixing)
        self.assertEqual((prices[0], prices[2]), ((0, 1), (0, 1)))
        self.assertEqual(made_of([empty, empty], [("ale", 1, 0, 200)]), (None, ((0, 1), (0, 1))))

    def test_more_runnings_and_wishes_than_the_bounds(self):
        rolls = dice(85)
        for _ in range(5):
            runnings = random_runnings(rolls, 9, 50)
            self.check(runnings, reached_wishes(rolls, 6, runnings, 20))
        self.assertEqual(made_of([SMALL, STRONG], []), ([], None))


class ShowsNoneTest(QuestionTest):
    RUNNINGS = [SMALL, STRONG]
    WISHES = [("ale", 9, 50, 50)]

    def check(self, runnings, wishes, thing):
        told = self.look(shows_none, runnings, wishes, thing)
        self.assertIs(told, none_plainly(runnings, wishes, thing), repr(thing))
        return told

    def test_just_more_than_the_worth(self):
        self.assertIs(self.check([SMALL], [("ale", 11, 20, 20)], [(1, 1)]), True)
        self.assertIs(self.check([SMALL], [("ale", 11, 20, 20)], ((1, 7),)), True)
        self.assertIs(self.check([SMALL], [("ale", 10, 20, 20)], [(1, 1)]), False)
        self.assertIs(self.check([SMALL], [("ale", 9, 20, 20)], [(1, 1)]), False)
        lesser = (pair_of(10 - DROP), (200, 1))
        self.assertIs(self.check([lesser], [("ale", 10, 20, 21)], [(1, 1)]), True)

    def test_prices_of_nought(self):
        self.assertIs(self.check(self.RUNNINGS, self.WISHES, [(0, 1), (0, 1)]), False)
        self.assertIs(self.check(self.RUNNINGS, self.WISHES, [(0, 1), (1, 1)]), True)
        self.assertIs(self.check(self.RUNNINGS, self.WISHES, [(1, 1), (0, 1)]), False)

    def test_any_prices_where_a_wish_has_no_cost(self):
        for wishes in ([("ale", 1, 81, 90)], [("ale", 1, 0, 19), ("beer", 1, 50, 50)], [("beer", 1, 50, 50), ("ale", 1, 99, 99)]):
            for prices in ([(0, 1), (0, 1)], ((1, 1), (0, 1)), [(5, 7), (BIG, 1)]):
                self.assertIs(self.check(self.RUNNINGS, wishes, prices), True)
            for thing in ([], [(0, 1)], [(0, 1)] * 3, [(-1, 1), (0, 1)], [(0, 2), (0, 1)], None, [[0, 1], [0, 1]], 0, ""):
                self.assertIs(self.check(self.RUNNINGS, wishes, thing), False, repr(thing))

    def test_too_few_or_too_many(self):
        right = ((0, 1), (1, 1))
        for thing in (right, list(right)):
            self.assertIs(self.check(self.RUNNINGS, self.WISHES, thing), True)
        for thing in (right[:1], right[1:], right + right[:1], right + right, (), [], [right], (right, right)):
            self.assertIs(self.check(self.RUNNINGS, self.WISHES, thing), False, repr(thing))

    def test_no_fractions_from_nought_on(self):
        for price in ((2, 2), (-1, 1), (1, -1), (1, 0), (0, 2), [1, 1], (1,), (1, 1, 1), 1, "1", None, True, (True, 1), (1, True)):
            self.assertIs(self.check(self.RUNNINGS, self.WISHES, [(0, 1), price]), False, repr(price))
            self.assertIs(self.check(self.RUNNINGS, self.WISHES, (price, (1, 1))), False, repr(price))

    def test_ones_changed_at_one_place(self):
        for good in (((0, 1), (1, 1)), [(0, 1), (3, 2)], [(1, 100), (9, 1)]):
            self.assertIs(self.check(self.RUNNINGS, self.WISHES, good), True)
            for thing in changed_ones(good):
                self.check(self.RUNNINGS, self.WISHES, thing)

    def test_anything_to_six_deep(self):
        rolls = dice(86)
        for _ in range(2500):
            for thing in deep_things(rolls, rolls.choice((((0, 1), (1, 1)), [(0, 1), (1, 1)]))):
                self.check(self.RUNNINGS, self.WISHES, thing)
                self.check(self.RUNNINGS, [("ale", 1, 99, 99)], thing)

    def test_good_prices_and_those_a_little_otherwise(self):
        rolls = dice(87)
        seen = []
        while len(seen) < 300:
            runnings = random_runnings(rolls, rolls.randint(1, 6), 50)
            wishes = reached_wishes(rolls, rolls.randint(1, 4), runnings, 400)
            prices = made_of(runnings, wishes)[1]
            if prices is None:
                prices = tuple(pair_of(worth) for worth in random_worths(rolls, len(runnings)))
            seen.append(self.check(runnings, wishes, prices))
            self.check(runnings, wishes, list(prices))
            self.assertTrue(are_prices_plainly(runnings, prices))
            number = rolls.randrange(len(runnings))
            for factor in (Fraction(0), Fraction(1, 2), 1 - DROP, 1 + DROP, Fraction(9)):
                other = pair_of(worth_of_pair(prices[number]) * factor)
                self.check(runnings, wishes, with_part(prices, (number,), other))
        self.assertEqual(set(seen), {True, False})

    def test_where_a_mixing_makes_them_no_prices_are_taken(self):
        rolls = dice(88)
        for at in range(150):
            runnings, wishes, _ = whole_brew(rolls, 1 + at % 6, 1 + at % 4)
            prices = [pair_of(worth) for worth in random_worths(rolls, len(runnings))]
            self.assertIs(self.check(runnings, wishes, prices), False)


if __name__ == "__main__":
    unittest.main()
