"""Tests of the least grain: point [9], and points [1] and [2] as far as they reach it."""

import unittest
from fractions import Fraction

from mashrunnings.leasts import grain_of, least_of, many_times, shows_least
from mashrunnings.making import made_of, shows_none
from mashrunnings.mixings import shows_mixing
from tests.samples import (
    QuestionTest, are_prices_plainly, changed_ones, cost_of_all_plainly, deep_things, dice, is_fraction_plainly,
    is_told_mixing, mixing_plainly, pair_of, random_runnings, random_wishes, random_worth, reached_wishes, whole_brew,
    with_part, worth_of_pair, worth_plainly,
)

WATER, SMALL, STRONG = ((5, 1), (0, 1)), ((10, 1), (200, 1)), ((4, 1), (320, 1))
BIG = 10 ** 12
DROP = Fraction(1, BIG)


def least_plainly(runnings, wishes, times, mixing, thing):
    """Whether mixing and prices show that so many times are the least, by Fractions."""
    factor = worth_of_pair(times)
    greater = [tuple(pair_of(worth_of_pair(part) * factor) for part in running) for running in runnings]
    if not mixing_plainly(greater, wishes, mixing) or not are_prices_plainly(runnings, thing):
        return False
    worth = worth_plainly(runnings, thing)
    return worth > 0 and worth * factor == cost_of_all_plainly(runnings, wishes, thing)


class ManyTimesTest(QuestionTest):
    def test_examples(self):
        self.assertEqual(repr(many_times([SMALL, WATER], (3, 2))), repr([((15, 1), (300, 1)), ((15, 2), (0, 1))]))
        self.assertEqual(repr(many_times([SMALL], (1, 1))), repr([SMALL]))

    def test_many(self):
        rolls = dice(91)
        for at in range(60):
            runnings = random_runnings(rolls, 1 + at % 6)
            factor = random_worth(rolls)
            found = [tuple(pair_of(worth_of_pair(part) * factor) for part in running) for running in runnings]
            self.assertEqual(repr(self.ask(many_times, runnings, pair_of(factor))), repr(found))


class LeastOfTest(QuestionTest):
    def check(self, runnings, wishes):
        told = self.ask(least_of, runnings, wishes)
        self.assertEqual((type(told), len(told)), (tuple, 3))
        times, mixing, prices = told
        self.assertTrue(is_fraction_plainly(times) and times[0] > 0, repr(times))
        self.assertTrue(is_told_mixing(mixing), repr(mixing))
        self.assertIs(type(prices), tuple)
        self.assertIs(shows_least(runnings, wishes, times, mixing, prices), True)
        self.assertTrue(least_plainly(runnings, wishes, times, mixing, prices))
        self.just_so_many(runnings, wishes, times)
        return times

    def just_so_many(self, runnings, wishes, times):
        """Of so many times the wishes are made, of more too, of any less not."""
        factor = worth_of_pair(times)
        for more in (factor, factor + DROP, factor * 2):
            greater = many_times(runnings, pair_of(more))
            self.assertTrue(mixing_plainly(greater, wishes, made_of(greater, wishes)[0]))
        for less in (factor * (1 - DROP), factor / 2):
            lesser = many_times(runnings, pair_of(less))
            mixing, prices = made_of(lesser, wishes)
            self.assertIsNone(mixing)
            self.assertIs(shows_none(lesser, wishes, prices), True)

    def test_examples(self):
        self.assertEqual(self.check([SMALL], [("ale", 5, 20, 20)]), (1, 2))
        self.assertEqual(self.check([SMALL], [("ale", 10, 20, 20)]), (1, 1))
        self.assertEqual(self.check([SMALL], [("ale", 10 ** 4, 0, 200)]), (1000, 1))
        self.assertEqual(self.check([SMALL, STRONG], [("ale", 6, 50, 50)]), (3, 4))
        self.assertEqual(self.check([SMALL, STRONG], [("ale", 7, 0, 200)]), (1, 2))
        self.assertEqual(self.check([SMALL, STRONG], [("ale", 6, 50, 50), ("beer", 4, 80, 80)]), (7, 4))
        self.assertEqual(self.check([WATER, STRONG], [("ale", 9, 36, 40)]), (81, 80))
        self.assertEqual(least_of([SMALL], [("ale", 5, 20, 20)])[1], [[(0, (5, 1))]])

    def test_some_wish_is_not_reached(self):
        for wish in (("ale", 1, 81, 200), ("ale", 1, 0, 19)):
            for wishes in ([wish], [("beer", 1, 50, 50), wish], [wish, ("beer", 1, 50, 50)]):
                self.assertEqual(self.ask(least_of, [SMALL, STRONG], wishes), (None, None, None))
        self.assertEqual(least_of([WATER], [("ale", 1, 1, 200)]), (None, None, None))

    def test_many(self):
        rolls = dice(92)
        for at in range(120):
            runnings = random_runnings(rolls, 1 + at % 6, rolls.choice((50, BIG)))
            self.check(runnings, reached_wishes(rolls, 1 + at % 4, runnings, rolls.choice((9, 10 ** 4))))

    def test_ones_that_may_not_be_reached(self):
        rolls = dice(93)
        for at in range(100):
            runnings = random_runnings(rolls, 1 + at % 6)
            wishes = random_wishes(rolls, 1 + at % 4, runnings)
            if cost_of_all_plainly(runnings, wishes, [(0, 1)] * len(runnings)) is None:
                self.assertEqual(self.ask(least_of, runnings, wishes), (None, None, None))
            else:
                self.check(runnings, wishes)

    def test_just_all_that_there_is(self):
        rolls = dice(94)
        for at in range(60):
            runnings, wishes, _ = whole_brew(rolls, 1 + at % 6, 1 + at % 4)
            self.assertEqual(self.check(runnings, wishes), (1, 1))
            less = many_times(runnings, (2, 3))
            self.assertEqual(self.check(less, wishes), (3, 2))


class ShowsLeastTest(QuestionTest):
    RUNNINGS = [SMALL, STRONG]
    WISHES = [("ale", 6, 50, 50)]
    TIMES, MIXING, PRICES = (3, 4), [[(0, (3, 1)), (1, (3, 1))]], ((0, 1), (1, 1))

    def check(self, times, mixing, thing, runnings=None, wishes=None):
        runnings, wishes = runnings or self.RUNNINGS, wishes or self.WISHES

        def question(runnings, wishes, times, thing):
            return shows_least(runnings, wishes, times, mixing, thing)

        told = self.look(question, runnings, wishes, times, thing)
        self.assertIs(told, least_plainly(runnings, wishes, times, mixing, thing), repr((times, mixing, thing)))
        return told

    def test_a_good_one(self):
        self.assertIs(self.check(self.TIMES, self.MIXING, self.PRICES), True)
        self.assertIs(self.check(self.TIMES, tuple(map(tuple, self.MIXING)), list(self.PRICES)), True)
        self.assertIs(self.check(self.TIMES, self.MIXING, ((0, 1), (7, 9))), True)

    def test_spoilt_times(self):
        for times in (Fraction(3, 4) - DROP, Fraction(3, 4) + DROP, Fraction(1), Fraction(1, 2), Fraction(BIG), DROP):
            self.assertIs(self.check(pair_of(times), self.MIXING, self.PRICES), False)

    def test_prices_of_nought_show_nothing(self):
        self.assertIs(self.check(self.TIMES, self.MIXING, ((0, 1), (0, 1))), False)

    def test_prices_only_of_what_is_not_scarce(self):
        self.assertIs(self.check(self.TIMES, self.MIXING, ((1, 1), (0, 1))), False)
        self.assertIs(self.check(self.TIMES, self.MIXING, ((1, BIG), (1, 1))), False)

    def test_a_mixing_that_is_not_the_least_one(self):
        greedy = [[(1, (4, 1))]]
        self.assertIs(self.check((1, 1), greedy, ((0, 1), (1, 1)), wishes=[("ale", 4, 20, 80)]), False)

    def test_spoilt_mixings_and_prices(self):
        for mixing in changed_ones(self.MIXING):
            self.check(self.TIMES, mixing, self.PRICES)
        for prices in changed_ones(self.PRICES) + changed_ones([(0, 1), (1, 2)]):
            self.check(self.TIMES, self.MIXING, prices)

    def test_anything_to_six_deep(self):
        rolls = dice(95)
        for _ in range(1500):
            for mixing in deep_things(rolls, self.MIXING):
                self.check(self.TIMES, mixing, self.PRICES)
            for prices in deep_things(rolls, self.PRICES):
                self.check(self.TIMES, self.MIXING, prices)
                self.check(self.TIMES, deep_things(rolls, self.MIXING)[0], prices)

    def test_a_wish_that_is_not_reached(self):
        for mixing in ([], [[]], self.MIXING, None):
            self.assertIs(shows_least(self.RUNNINGS, [("ale", 6, 99, 99)], self.TIMES, mixing, self.PRICES), False)

    def test_many_told_ones_and_those_a_little_otherwise(self):
        rolls = dice(96)
        for at in range(80):
            runnings = random_runnings(rolls, 1 + at % 6, 50)
            wishes = reached_wishes(rolls, 1 + at % 4, runnings)
            times, mixing, prices = least_of(runnings, wishes)
            self.assertIs(self.check(times, mixing, prices, runnings, wishes), True)
            self.assertIs(self.check(times, mixing, list(prices), runnings, wishes), True)
            number = rolls.randrange(len(runnings))
            for factor in (Fraction(0), 1 - DROP, 1 + DROP, Fraction(3)):
                other = pair_of(worth_of_pair(prices[number]) * factor)
                self.check(times, mixing, with_part(prices, (number,), other), runnings, wishes)
            self.assertIs(self.check(pair_of(worth_of_pair(times) + DROP), mixing, prices, runnings, wishes), False)
            self.assertIs(shows_mixing(many_times(runnings, times), wishes, mixing), True)


class GrainOfTest(QuestionTest):
    def test_examples(self):
        malts = [("pale", 100, 30), ("brown", 7, 25)]
        self.assertEqual(repr(grain_of(malts, (3, 4))), repr([("pale", (75, 1)), ("brown", (21, 4))]))
        self.assertEqual(grain_of(malts, (1, 1)), [("pale", (100, 1)), ("brown", (7, 1))])

    def test_many(self):
        rolls = dice(97)
        for many in range(1, 7):
            names = rolls.sample(["a", "amber", "black", "brown", "pale", "rye"], many)
            malts = [(malt, rolls.randint(1, 10 ** 4), rolls.randint(1, 40)) for malt in names]
            for _ in range(10):
                factor = random_worth(rolls)
                found = [(malt, pair_of(pounds * factor)) for malt, pounds, _ in malts]
                self.assertEqual(repr(self.ask(grain_of, malts, pair_of(factor))), repr(found))


if __name__ == "__main__":
    unittest.main()
