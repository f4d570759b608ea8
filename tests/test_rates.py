"""Tests of rates: point [12], and point [2] as far as it reaches them."""

import unittest
from fractions import Fraction

from mashrunnings.rates import are_rates, bill_of, pence_of, rate_of
from tests.brews import DUTY, PRICES, are_rates_plainly, pence_plainly, random_rates
from tests.samples import (
    QuestionTest, any_thing, changed_ones, deep_things, dice, nested, pair_of, random_wort, random_worth, worth_of_pair,
    wort_of,
)

EIGHT = [(0, 0), (1, 10 ** 6), (2, 5), (50, 4), (51, 4), (198, 0), (199, 7), (200, 10 ** 6)]
MALTS = ("amber", "brown", "pale")


def wort(gallons, strength):
    """A wort of one malt, of Fractions."""
    points = Fraction(gallons) * Fraction(strength)
    return wort_of(Fraction(gallons), {"pale": points} if points else {})


def points_in(told):
    return sum(worth_of_pair(points) for _, points in told[1])


class AreRatesTest(QuestionTest):
    def good(self, thing):
        self.assertIs(self.look(are_rates, thing), True, repr(thing))

    def bad(self, thing):
        self.assertIs(self.look(are_rates, thing), False, repr(thing))

    def test_lists_and_tuples_of_pairs(self):
        for rates in (PRICES, DUTY, EIGHT, [(0, 0)], [(0, 10 ** 6)], [(0, 3), (200, 0)], [(0, 1), (1, 0)]):
            self.good(rates)
            self.good(tuple(rates))
            self.bad([list(pair) for pair in rates])
            self.bad([list(rates[0])] + rates[1:])

    def test_one_to_eight_pairs(self):
        self.bad([])
        self.bad(())
        many = [(least, 1) for least in range(9)]
        for length in range(1, 10):
            (self.good if length < 9 else self.bad)(many[:length])

    def test_the_first_least_is_nought_and_leasts_rise(self):
        for bad in (
            [(1, 5)], [(200, 5)], [(-1, 5)], [(0, 5), (0, 6)], [(0, 5), (0, 5)], [(0, 1), (2, 1), (1, 1)],
            [(0, 1), (2, 1), (2, 1)], [(5, 1), (6, 1)], [(0, 1), (5, 1), (0, 1)], [(-1, 1), (0, 1)], [(1, 1), (0, 1)],
        ):
            self.bad(bad)

    def test_leasts_and_pence_at_and_beyond_their_bounds(self):
        self.good([(0, 1), (200, 1)])
        self.bad([(0, 1), (201, 1)])
        self.bad([(0, 1), (-1, 1)])
        self.bad([(0, 1), (10 ** 12, 1)])
        for pence in (0, 1, 10 ** 6):
            self.good([(0, pence)])
            self.good([(0, 1), (9, pence)])
        for pence in (-1, 10 ** 6 + 1, 10 ** 12):
            self.bad([(0, pence)])
            self.bad([(0, 1), (9, pence)])

    def test_true_and_false_are_no_numbers(self):
        for bad in ([(False, 1)], [(0, True)], [(0, False)], [(0, 1), (True, 1)], [(0, None)], [(None, 0)], [("0", 1)]):
            self.bad(bad)

    def test_other_things(self):
        for thing in (None, True, False, 0, 7, "", "rates", (0, 1), [0, 1], [()], [[]], [(0,)], [(0, 1, 2)], ["ab"], [None]):
            self.bad(thing)
        for deep in range(6):
            for thing in nested((0, 1), deep):
                self.assertIs(self.look(are_rates, thing), deep == 1, repr(thing))

    def test_one_part_otherwise(self):
        for rates in (PRICES, tuple(EIGHT), [(0, 0)]):
            for thing in changed_ones(rates):
                self.assertIs(self.look(are_rates, thing), are_rates_plainly(thing), repr(thing))

    def test_anything_by_chance(self):
        rolls = dice("are rates")
        for _ in range(2000):
            for thing in deep_things(rolls, random_rates(rolls)) + [any_thing(rolls, 3)]:
                self.assertIs(self.look(are_rates, thing), are_rates_plainly(thing), repr(thing))


class RateOfTest(QuestionTest):
    def test_at_each_least_and_a_little_beside_it(self):
        for rates in (PRICES, EIGHT, [(0, 8)]):
            before = rates[0][1]
            for least, pence in rates:
                for little in (Fraction(1, 10 ** 12), Fraction(1, 7)):
                    if least:
                        self.assertEqual(self.ask(rate_of, rates, pair_of(least - little)), before)
                    self.assertEqual(self.ask(rate_of, rates, pair_of(least)), pence)
                    self.assertEqual(self.ask(rate_of, rates, pair_of(least + little)), pence)
                before = pence

    def test_strengths_beyond_all_leasts(self):
        self.assertEqual(self.ask(rate_of, PRICES, (10 ** 12, 1)), 30)
        self.assertEqual(self.ask(rate_of, [(0, 8)], (0, 1)), 8)
        self.assertEqual(self.ask(rate_of, EIGHT, (201, 1)), 10 ** 6)

    def test_by_chance(self):
        rolls = dice("rate of")
        for _ in range(300):
            rates, strength = random_rates(rolls), random_worth(rolls, 10 ** 4)
            expected = [pence for least, pence in rates if least <= strength][-1]
            self.assertEqual(self.ask(rate_of, rates, pair_of(strength)), expected)


class PenceOfTest(QuestionTest):
    def test_whole_gallons(self):
        self.assertEqual(self.ask(pence_of, PRICES, wort(4, 20)), 36)
        self.assertEqual(self.ask(pence_of, PRICES, wort(4, 19)), 12)
        self.assertEqual(self.ask(pence_of, PRICES, wort(1, 60)), 30)
        self.assertEqual(self.ask(pence_of, DUTY, wort(7, 34)), 0)

    def test_a_wort_without_points(self):
        self.assertEqual(self.ask(pence_of, PRICES, ((5, 1), ())), 15)
        self.assertEqual(self.ask(pence_of, DUTY, ((1, 3), ())), 0)

    def test_rounded_up(self):
        self.assertEqual(self.ask(pence_of, PRICES, wort(Fraction(1, 3), 0)), 1)
        self.assertEqual(self.ask(pence_of, PRICES, wort(Fraction(1, 4), 0)), 1)
        self.assertEqual(self.ask(pence_of, PRICES, wort(Fraction(5, 2), 20)), 23)
        self.assertEqual(self.ask(pence_of, PRICES, wort(Fraction(1, 10 ** 12), 60)), 1)
        self.assertEqual(self.ask(pence_of, PRICES, wort(2 + Fraction(1, 10 ** 12), 60)), 61)
        self.assertEqual(self.ask(pence_of, [(0, 10 ** 6)], wort(Fraction(10 ** 12 - 1, 10 ** 12), 5)), 10 ** 6)

    def test_strength_is_of_all_malts_together(self):
        mixed = ((2, 1), (("brown", (20, 1)), ("pale", (20, 1))))
        self.assertEqual(self.ask(pence_of, PRICES, mixed), 18)

    def test_by_chance(self):
        rolls = dice("pence of")
        for _ in range(300):
            rates, told = random_rates(rolls), random_wort(rolls, MALTS, 10 ** 4)
            expected = pence_plainly(rates, worth_of_pair(told[0]), points_in(told))
            self.assertEqual(self.ask(pence_of, rates, told), expected)


class BillOfTest(QuestionTest):
    def test_of_no_worts(self):
        self.assertEqual(self.ask(bill_of, PRICES, DUTY, []), (0, 0, 0))

    def test_of_some(self):
        told = self.ask(bill_of, PRICES, DUTY, [wort(4, 20), wort(2, 40), wort(Fraction(1, 2), 61)])
        self.assertEqual(told, (36 + 18 + 15, 0 + 24 + 6, 39))
        self.assertIs(type(told), tuple)

    def test_each_wort_is_rounded_by_itself(self):
        third = wort(Fraction(1, 3), 0)
        self.assertEqual(self.ask(bill_of, [(0, 1)], [(0, 2)], [third, third, third]), (3, 3, 0))

    def test_one_rates_for_both(self):
        one = [[0, 3], [20, 9]]
        before = repr(one)
        self.assertEqual(bill_of(one, one, [wort(4, 20)]), (36, 36, 0))
        self.assertEqual(repr(one), before)

    def test_left_may_be_below_nought(self):
        self.assertEqual(self.ask(bill_of, DUTY, PRICES, [wort(4, 20), wort(1, 70)]), (12, 66, -54))

    def test_by_chance(self):
        rolls = dice("bill of")
        for _ in range(60):
            prices, duty = random_rates(rolls), random_rates(rolls)
            worts = [random_wort(rolls, MALTS, 10 ** 3) for _ in range(rolls.randint(0, 9))]
            sums = [
                sum(pence_plainly(rates, worth_of_pair(told[0]), points_in(told)) for told in worts)
                for rates in (prices, duty)
            ]
            self.assertEqual(self.ask(bill_of, prices, duty, worts), (sums[0], sums[1], sums[0] - sums[1]))


if __name__ == "__main__":
    unittest.main()
