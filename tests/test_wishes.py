"""Tests of wishes: point [6], and point [2] as far as it reaches them."""

import unittest
from fractions import Fraction

from mashrunnings.mixings import rests_of
from mashrunnings.wishes import cost_of, is_wish, reaches, running_of, worth_of
from tests.samples import (
    QuestionTest, any_thing, as_lists, as_mixture, changed_ones, cost_plainly, dice, nested, pair_of, random_runnings,
    random_wishes, random_worth, random_worths, random_wort, running_worths, worth_of_pair,
)

WISH = ("porter", 40, 50, 60)
WATER, SMALL, STRONG = ((5, 1), (0, 1)), ((10, 1), (200, 1)), ((4, 1), (320, 1))
BIG = 10 ** 12
GREATEST = (
    ((BIG, 1), (BIG, 1)), ((BIG - 1, BIG), (1, BIG)), ((1, BIG), (199, BIG)), ((BIG, BIG - 1), (BIG - 3, BIG - 7)),
    ((BIG - 11, BIG - 2), (BIG, 7)), ((1, BIG), (BIG, 1)),
)


def wished(least, most):
    return ("ale", 1, least, most)


def is_wish_plainly(thing):
    if type(thing) is not tuple or len(thing) != 4 or [type(part) for part in thing] != [str, int, int, int]:
        return False
    beer, gallons, least, most = thing
    if not 1 <= len(beer) <= 8 or not set(beer) <= set("abcdefghijklmnopqrstuvwxyz"):
        return False
    return 1 <= gallons <= 10000 and 0 <= least <= most <= 200


class IsWishTest(unittest.TestCase):
    def check(self, thing):
        before = repr(thing)
        self.assertIs(is_wish(thing), is_wish_plainly(thing), before)
        self.assertEqual(repr(thing), before)

    def test_right_ones(self):
        right = (
            WISH, ("a", 1, 0, 0), ("zzzzzzzz", 10 ** 4, 200, 200), ("ab", 1, 0, 200), ("ab", 9999, 199, 200), ("b", 2, 7, 7),
        )
        for thing in right:
            self.assertIs(is_wish(thing), True, repr(thing))

    def test_wrong_ones(self):
        wrong = (
            ("", 1, 0, 0), ("abcdefghi", 1, 0, 0), ("Ale", 1, 0, 0), ("a b", 1, 0, 0), ("ale\n", 1, 0, 0), (1, 1, 0, 0),
            (None, 1, 0, 0), (("a",), 1, 0, 0), ("ale", 0, 0, 0), ("ale", -1, 0, 0), ("ale", 10 ** 4 + 1, 0, 0),
            ("ale", True, 0, 0), ("ale", "1", 0, 0), ("ale", (1, 1), 0, 0), ("ale", None, 0, 0), ("ale", 1, -1, 0),
            ("ale", 1, False, 0), ("ale", 1, 0, False), ("ale", 1, 0, True), ("ale", 1, 5, 4), ("ale", 1, 0, 201),
            ("ale", 1, 201, 201), ("ale", 1, (0, 1), 5), ("ale", 1, 0, (5, 1)), ("ale", 1, "0", 5), ("ale", 1, None, 5),
            ("ale", 1, 0), ("ale", 1, 0, 5, 5), ["ale", 1, 0, 5], ("ale",), (), [], None, True, False, 0, 1, "", "ale", "abcd",
            (("ale", 1, 0, 5),), [("ale", 1, 0, 5)], (1, 2, 3, 4), ("a", "b", "c", "d"), ((), (), (), ()),
        )
        for thing in wrong:
            self.assertIs(is_wish(thing), False, repr(thing))

    def test_bounds(self):
        for number in range(-2, 203):
            self.check(("ale", 1, number, 200))
            self.check(("ale", 1, 0, number))
            self.check(("ale", 1, number, number))
            self.check(("ale", 1, 77, number))
        for number in (-1, 0, 1, 2, 9999, 10000, 10001, BIG):
            self.check(("ale", number, 1, 2))

    def test_ones_changed_at_one_place(self):
        for thing in changed_ones(WISH) + changed_ones(("a", 1, 0, 1)):
            self.check(thing)

    def test_anything_to_six_deep(self):
        rolls = dice(61)
        for _ in range(4000):
            self.check(any_thing(rolls, 6))
            self.check(("ale", any_thing(rolls, 5), 0, any_thing(rolls, 5)))
            self.check((any_thing(rolls, 5), 1, any_thing(rolls, 1), 9))
        for deep in range(6):
            for thing in nested(WISH, deep) + nested(list(WISH), deep):
                self.check(thing)


class RunningOfTest(QuestionTest):
    def test_examples(self):
        self.assertEqual(running_of(((4, 1), (("brown", (7, 2)), ("pale", (60, 1))))), ((4, 1), (127, 2)))
        self.assertEqual(running_of([[5, 2], []]), ((5, 2), (0, 1)))

    def test_many(self):
        rolls = dice(62)
        for _ in range(50):
            wort = random_wort(rolls, ("a", "b", "pale", "rye"))
            points = sum((worth_of_pair(points) for _, points in wort[1]), Fraction(0))
            self.assertEqual(repr(self.ask(running_of, wort)), repr((wort[0], pair_of(points))))


class ReachesTest(QuestionTest):
    def test_one_running(self):
        for least, most, reached in ((20, 20, True), (0, 200, True), (20, 30, True), (0, 20, True), (21, 30, False), (0, 19, False)):
            self.assertIs(reaches([SMALL], wished(least, most)), reached, (least, most))

    def test_a_strength_that_is_no_whole_number(self):
        running = ((2, 1), (41, 1))
        for least, most, reached in ((20, 20, False), (21, 21, False), (20, 21, True), (0, 20, False), (21, 200, False)):
            self.assertIs(reaches([running], wished(least, most)), reached, (least, most))

    def test_between_two(self):
        for runnings in ([SMALL, STRONG], [STRONG, SMALL], [STRONG, SMALL, SMALL]):
            for least, most, reached in (
                (20, 20, True), (50, 50, True), (80, 80, True), (19, 19, False), (81, 81, False), (0, 20, True), (80, 99, True),
                (0, 19, False), (81, 200, False), (30, 40, True),
            ):
                self.assertIs(reaches(runnings, wished(least, most)), reached, (least, most))

    def test_water_alone_and_with_others(self):
        self.assertIs(reaches([WATER], wished(0, 0)), True)
        self.assertIs(reaches([WATER], wished(1, 200)), False)
        self.assertIs(reaches([WATER, STRONG], wished(1, 1)), True)

    def test_how_much_there_is_is_no_matter(self):
        drop = ((1, BIG), (200, BIG))
        self.assertIs(reaches([WATER, drop], ("ale", 10 ** 4, 200, 200)), True)
        self.assertIs(reaches([WATER, drop], ("ale", 10 ** 4, 199, 199)), True)

    def test_many(self):
        rolls = dice(63)
        for at in range(400):
            runnings = random_runnings(rolls, 1 + at % 6)
            wish = random_wishes(rolls, 1, runnings)[0]
            strengths = [strength for _, strength in running_worths(runnings)]
            reached = min(strengths) <= wish[3] and max(strengths) >= wish[2]
            self.assertIs(self.ask(reaches, runnings, wish), reached)


class CostOfTest(QuestionTest):
    def check(self, runnings, wish, prices):
        told = self.ask(cost_of, runnings, wish, prices)
        cost = cost_plainly(runnings, wish, prices)
        self.assertEqual(repr(told), repr(None if cost is None else pair_of(cost)), (runnings, wish, prices))
        self.assertIs(reaches(runnings, wish), told is not None)

    def test_examples(self):
        prices = [(1, 1), (4, 1)]
        self.assertEqual(cost_of([SMALL, STRONG], wished(20, 20), prices), (1, 1))
        self.assertEqual(cost_of([SMALL, STRONG], wished(80, 80), prices), (4, 1))
        self.assertEqual(cost_of([SMALL, STRONG], wished(50, 50), prices), (5, 2))
        self.assertEqual(cost_of([SMALL, STRONG], wished(30, 50), prices), (3, 2))
        self.assertEqual(cost_of([SMALL, STRONG], wished(30, 50), [(4, 1), (1, 1)]), (5, 2))
        self.assertEqual(cost_of([SMALL, STRONG], wished(0, 200), prices), (1, 1))
        self.assertIsNone(cost_of([SMALL, STRONG], wished(81, 90), prices))
        self.assertIsNone(cost_of([SMALL, STRONG], wished(0, 19), prices))
        self.assertEqual(cost_of([SMALL, STRONG], wished(50, 50), [(0, 1), (0, 1)]), (0, 1))
        self.assertEqual(cost_of([SMALL, STRONG], wished(50, 50), [(1, 3), (1, 2)]), (5, 12))

    def test_two_mixed_may_cost_less_than_one(self):
        middle = ((1, 1), (50, 1))
        self.assertEqual(cost_of([SMALL, middle, STRONG], wished(50, 50), [(1, 1), (3, 1), (4, 1)]), (5, 2))
        self.assertEqual(cost_of([SMALL, middle, STRONG], wished(50, 50), [(1, 1), (2, 1), (4, 1)]), (2, 1))
        self.assertEqual(cost_of([SMALL, middle, STRONG], wished(50, 60), [(9, 1), (2, 1), (1, 1)]), (5, 3))

    def test_wishes_of_just_a_runnings_strength(self):
        runnings = [WATER, SMALL, STRONG]
        for least, most in ((0, 0), (20, 20), (80, 80), (20, 80), (0, 20), (80, 80), (0, 80), (1, 79), (79, 80), (20, 21)):
            for prices in (((1, 1), (5, 1), (7, 1)), ((9, 2), (0, 1), (1, 3)), ((2, 1), (2, 1), (2, 1)), ((3, 1), (2, 1), (0, 1))):
                self.check(runnings, wished(least, most), prices)

    def test_runnings_of_one_strength(self):
        runnings = [SMALL, ((1, 2), (10, 1)), ((3, 1), (60, 1))]
        for least, most in ((20, 20), (0, 20), (20, 30), (21, 30), (0, 19)):
            self.check(runnings, wished(least, most), ((3, 1), (5, 2), (7, 1)))

    def test_many(self):
        rolls = dice(64)
        for at in range(400):
            runnings = random_runnings(rolls, 1 + at % 6)
            prices = [pair_of(worth) for worth in random_worths(rolls, len(runnings))]
            self.check(runnings, random_wishes(rolls, 1, runnings)[0], prices)

    def test_the_greatest(self):
        prices = [pair_of(Fraction(BIG - at, BIG - at - 1)) for at in range(5)] + [(0, 1)]
        for least, most in ((0, 200), (1, 1), (100, 100), (199, 200), (2, 150)):
            self.check(GREATEST, wished(least, most), prices)
            self.check(GREATEST[:5], wished(least, most), prices[:5])

    def test_one_who_mixes_by_chance_never_pays_less(self):
        rolls = dice(65)
        for at in range(150):
            runnings = random_runnings(rolls, 2 + at % 5, 1000)
            prices = [pair_of(worth) for worth in random_worths(rolls, len(runnings), 1000)]
            shares = [rolls.choice((0, 1, 2, 9)) for _ in runnings]
            if not sum(shares):
                continue
            strength = sum(share * worth for share, (_, worth) in zip(shares, running_worths(runnings))) / sum(shares)
            price = sum(share * worth_of_pair(price) for share, price in zip(shares, prices)) / sum(shares)
            least, most = int(strength), int(strength) + 1
            told = cost_of(runnings, wished(least, most), prices)
            self.assertLessEqual(worth_of_pair(told), price)


class WorthOfTest(QuestionTest):
    def test_examples(self):
        self.assertEqual(worth_of([SMALL, STRONG], [(1, 1), (4, 1)]), (26, 1))
        self.assertEqual(worth_of([SMALL, STRONG], [(0, 1), (0, 1)]), (0, 1))
        self.assertEqual(worth_of([((1, 3), (1, 1))], [(3, 2)]), (1, 2))

    def test_many(self):
        rolls = dice(66)
        for at in range(100):
            runnings = random_runnings(rolls, 1 + at % 6)
            prices = random_worths(rolls, len(runnings))
            worth = sum(gallons * price for (gallons, _), price in zip(running_worths(runnings), prices))
            self.assertEqual(repr(self.ask(worth_of, runnings, [pair_of(price) for price in prices])), repr(pair_of(worth)))


class BeyondTest(unittest.TestCase):
    """What is beyond the bounds isn't promised, but no error comes of it."""

    def test_runnings_with_nothing_left_are_not_mixed(self):
        rests = rests_of([SMALL, STRONG], [[(1, (4, 1))]])
        self.assertIs(reaches(rests, wished(80, 80)), False)
        self.assertIs(reaches(rests, wished(20, 20)), True)
        self.assertEqual(cost_of(rests, wished(0, 200), [(5, 1), (1, 1)]), (5, 1))

    def test_more_than_six_runnings(self):
        rolls = dice(67)
        runnings = random_runnings(rolls, 12)
        prices = [pair_of(random_worth(rolls)) for _ in runnings]
        self.assertEqual(cost_of(as_lists(runnings), wished(0, 900), prices), min(prices, key=worth_of_pair))
        self.assertIs(reaches(as_mixture(runnings, rolls), wished(0, 900)), True)


if __name__ == "__main__":
    unittest.main()
