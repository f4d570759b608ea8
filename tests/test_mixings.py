"""Tests of mixings: point [7], and point [2] as far as it reaches them."""

import unittest
from fractions import Fraction

from mashrunnings.mixings import rests_of, shows_mixing, strengths_of
from tests.samples import (
    QuestionTest, any_thing, as_lists, changed_ones, dice, mixing_plainly, pair_of, part_at, places_in, random_mixing,
    random_runnings, running_worths, with_part, worth_of_pair,
)

SMALL, MIDDLE, STRONG = ((10, 1), (200, 1)), ((3, 2), (75, 1)), ((4, 1), (320, 1))
RUNNINGS = (SMALL, MIDDLE, STRONG)
WISHES = (("porter", 6, 50, 50), ("small", 5, 20, 25))
MIXING = [[(0, (3, 1)), (2, (3, 1))], [(0, (9, 2)), (1, (1, 2))]]
DROP = Fraction(1, 10 ** 12)


def as_tuples(thing):
    return tuple(as_tuples(part) for part in thing) if isinstance(thing, (list, tuple)) else thing


def wishes_for(runnings, mixing, rolls):
    """Whole wishes that a mixing makes, and the runnings and mixing so much greater that gallons are whole."""
    rows = [[(number, worth_of_pair(gallons)) for number, gallons in row] for row in mixing]
    worths = running_worths(runnings)
    many = 1
    for row in rows:
        many *= sum(gallons for _, gallons in row).denominator
    greater = [(pair_of(gallons * many), pair_of(gallons * strength * many)) for gallons, strength in worths]
    wishes = []
    for beer, row in zip(("a", "b", "mild", "porter"), rows):
        gallons = sum(part for _, part in row) * many
        strength = sum(part * worths[number][1] for number, part in row) * many / gallons
        least = int(strength) - rolls.choice((0, 0, 5))
        wishes.append((beer, int(gallons), max(0, least), int(strength) + 1))
    return greater, wishes, [[(number, pair_of(gallons * many)) for number, gallons in row] for row in rows]


class ShowsMixingTest(QuestionTest):
    def check(self, thing, runnings=RUNNINGS, wishes=WISHES):
        told = self.look(shows_mixing, runnings, wishes, thing)
        self.assertIs(told, mixing_plainly(runnings, wishes, thing), repr(thing))
        return told

    def right(self, thing, runnings=RUNNINGS, wishes=WISHES):
        self.assertIs(self.check(thing, runnings, wishes), True, repr(thing))

    def wrong(self, thing, runnings=RUNNINGS, wishes=WISHES):
        self.assertIs(self.check(thing, runnings, wishes), False, repr(thing))

    def test_lists_and_tuples_where_lists_are_told(self):
        self.right(MIXING)
        self.right(as_tuples(MIXING))
        self.right([tuple(row) for row in MIXING])
        self.right(tuple(MIXING))

    def test_tuples_where_tuples_are_told(self):
        self.wrong(as_lists(MIXING))
        self.wrong([[(0, [3, 1]), (2, (3, 1))], MIXING[1]])
        self.wrong([[[0, (3, 1)], (2, (3, 1))], MIXING[1]])

    def test_a_little_more_or_less_gallons(self):
        for sign in (1, -1):
            for path in ((0, 0, 1), (0, 1, 1), (1, 0, 1), (1, 1, 1)):
                gallons = worth_of_pair(part_at(MIXING, path))
                for little in (DROP, Fraction(1, 2), Fraction(1)):
                    self.wrong(with_part(MIXING, path, pair_of(gallons + sign * little)))

    def test_a_strength_just_within_and_just_outside(self):
        wish = ("ale", 3, 40, 60)
        for low, right in ((2, True), (1, True), (2 + DROP, False), (1 - DROP, False), (Fraction(3, 2), True)):
            row = [(0, pair_of(low)), (2, pair_of(3 - low))]
            self.assertIs(self.check([row], RUNNINGS, [wish]), right, low)
        for row, right in (([(1, (3, 2))], False), ([(0, (3, 1))], False), ([(2, (3, 1))], False)):
            self.assertIs(self.check([row], RUNNINGS, [wish]), right, row)

    def test_a_running_of_just_the_wished_strength(self):
        self.right([[(0, (7, 1))]], RUNNINGS, [("ale", 7, 20, 20)])
        self.right([[(0, (7, 1))]], RUNNINGS, [("ale", 7, 20, 21)])
        self.right([[(0, (7, 1))]], RUNNINGS, [("ale", 7, 0, 20)])
        self.wrong([[(0, (7, 1))]], RUNNINGS, [("ale", 7, 21, 22)])
        self.wrong([[(0, (7, 1))]], RUNNINGS, [("ale", 7, 0, 19)])

    def test_water(self):
        runnings = (((5, 1), (0, 1)), STRONG)
        self.right([[(0, (5, 1))]], runnings, [("water", 5, 0, 0)])
        self.right([[(0, (3, 1)), (1, (1, 1))]], runnings, [("ale", 4, 20, 20)])
        self.wrong([[(0, (5, 1))]], runnings, [("water", 5, 1, 200)])

    def test_a_running_gives_just_what_it_has_and_a_little_more(self):
        self.right([[(2, (4, 1))]], RUNNINGS, [("ale", 4, 80, 80)])
        self.wrong([[(2, (5, 1))]], RUNNINGS, [("ale", 5, 80, 80)])
        two = [("ale", 3, 80, 80), ("beer", 1, 80, 80)]
        self.right([[(2, (3, 1))], [(2, (1, 1))]], RUNNINGS, two)
        less = (SMALL, MIDDLE, (pair_of(4 - DROP), pair_of(80 * (4 - DROP))))
        self.wrong([[(2, (3, 1))], [(2, (1, 1))]], less, two)
        self.wrong([[(2, (3, 1))], [(2, (2, 1))]], RUNNINGS, [two[0], ("beer", 2, 80, 80)])

    def test_numbers_out_of_order_twice_or_unknown(self):
        self.wrong([MIXING[0][::-1], MIXING[1]])
        self.wrong([[(0, (3, 2)), (0, (3, 2)), (2, (3, 1))], MIXING[1]])
        self.wrong([[(2, (4, 1)), (2, (4, 1))]], RUNNINGS, [("ale", 8, 80, 80)])
        for number in (3, 4, -1, -3, 10 ** 12, True, False, None, "0", (0,)):
            self.wrong([[(0, (3, 1)), (number, (3, 1))], MIXING[1]])
            self.wrong([[(number, (3, 1)), (2, (3, 1))], MIXING[1]])
        self.wrong([[(-3, (4, 1))]], RUNNINGS, [("ale", 4, 20, 20)])
        self.wrong([[(-1, (4, 1))]], RUNNINGS, [("ale", 4, 80, 80)])
        self.wrong([[(False, (4, 1))]], RUNNINGS, [("ale", 4, 20, 20)])
        self.wrong([[(True, (1, 1))]], RUNNINGS, [("ale", 1, 50, 50)])

    def test_a_row_too_few_too_many_or_empty(self):
        self.wrong(MIXING[:1])
        self.wrong(MIXING + [[]])
        self.wrong(MIXING + [[(1, (1, 2))]])
        self.wrong([MIXING[0], []])
        self.wrong([[], MIXING[1]])
        self.wrong(MIXING[::-1])
        self.wrong([[], []])
        self.wrong([])
        self.wrong(())

    def test_fractions_not_in_lowest_terms_or_no_fractions(self):
        for gallons in ((6, 2), (-3, -1), (3, True), (3,), (3, 1, 1), 3, "3", None, [3, 1], (0, 1), (-3, 1), (3, 0), ((3, 1), 1)):
            self.wrong([[(0, gallons), (2, (3, 1))], MIXING[1]])
        self.wrong([[(0, (3, 1)), (1, (0, 1)), (2, (3, 1))], MIXING[1]])
        self.wrong([[(0, (4, 1)), (1, (-1, 1)), (2, (3, 1))], MIXING[1]])

    def test_ones_changed_at_one_place(self):
        for mixing in (MIXING, as_tuples(MIXING)):
            for thing in changed_ones(mixing):
                self.check(thing)

    def test_anything_to_six_deep(self):
        rolls = dice(71)
        for _ in range(2500):
            self.check(any_thing(rolls, 6))
            self.check([any_thing(rolls, 5), any_thing(rolls, 5)])
            self.check([MIXING[0], any_thing(rolls, 5)])
            self.check([[(0, any_thing(rolls, 3)), any_thing(rolls, 4)], MIXING[1]])

    def test_many_good_ones_and_ones_a_little_otherwise(self):
        rolls = dice(72)
        for at in range(80):
            runnings = random_runnings(rolls, 1 + at % 6, 30)
            runnings, wishes, mixing = wishes_for(runnings, random_mixing(rolls, runnings, 1 + at % 4), rolls)
            self.right(mixing, runnings, wishes)
            path = rolls.choice([path for path in places_in(mixing) if len(path) == 3 and path[2] == 1])
            gallons = worth_of_pair(part_at(mixing, path))
            self.wrong(with_part(mixing, path, pair_of(gallons + DROP)), runnings, wishes)
            self.wrong(with_part(mixing, path, pair_of(gallons + 1)), runnings, wishes)
            place = path[0]
            beer, much, least, most = wishes[place]
            self.check(mixing, runnings, with_part(wishes, (place,), (beer, much, least + 6, most + 6)))
            self.check(mixing, runnings, with_part(wishes, (place,), (beer, much, least, max(least, most - 1))))
            self.wrong(mixing, runnings, with_part(wishes, (place,), (beer, much + 1, least, most)))

    def test_the_greatest(self):
        big = 10 ** 12
        runnings = [(pair_of(Fraction(big, big - at)), pair_of(Fraction(big - at, big - 9))) for at in range(1, 7)]
        # Each gives what makes a gallon of the first two together, in turns.
        mixing = [[(0, pair_of(Fraction(big - 3, big))), (1, pair_of(Fraction(3, big)))]]
        self.right(mixing, runnings, [("ale", 1, 0, 2)])
        self.wrong([[(0, pair_of(Fraction(big - 3, big))), (1, pair_of(Fraction(3, big - 1)))]], runnings, [("ale", 1, 0, 2)])


class StrengthsOfTest(QuestionTest):
    def test_examples(self):
        self.assertEqual(strengths_of(RUNNINGS, MIXING), [(50, 1), (23, 1)])
        self.assertEqual(strengths_of(RUNNINGS, [[(2, (1, 9))]]), [(80, 1)])
        self.assertEqual(strengths_of([((1, 1), (0, 1))], [[(0, (1, 9))], [(0, (1, 9))]]), [(0, 1), (0, 1)])
        self.assertEqual(strengths_of(RUNNINGS, []), [])

    def test_more_than_there_is_has_a_strength_too(self):
        self.assertEqual(strengths_of(RUNNINGS, [[(0, (300, 1)), (2, (300, 1))]]), [(50, 1)])

    def test_many(self):
        rolls = dice(73)
        for at in range(100):
            runnings = random_runnings(rolls, 1 + at % 6)
            mixing = random_mixing(rolls, runnings, 1 + at % 4)
            worths = running_worths(runnings)
            found = []
            for row in mixing:
                points = sum(worth_of_pair(gallons) * worths[number][1] for number, gallons in row)
                found.append(pair_of(points / sum(worth_of_pair(gallons) for _, gallons in row)))
            self.assertEqual(repr(self.ask(strengths_of, runnings, mixing)), repr(found))


class RestsOfTest(QuestionTest):
    def check(self, runnings, mixing):
        told = self.ask(rests_of, runnings, mixing)
        found = []
        for number, (gallons, strength) in enumerate(running_worths(runnings)):
            gone = [worth_of_pair(given) for row in mixing for one, given in row if one == number]
            left = gallons - sum(gone)
            found.append((pair_of(left), pair_of(left * strength)))
        self.assertEqual(repr(told), repr(found))
        return told

    def test_runnings_left_whole_in_part_and_not_at_all(self):
        told = rests_of(RUNNINGS, [[(0, (5, 2)), (2, (3, 1))], [(2, (1, 1))]])
        self.assertEqual(repr(told), repr([((15, 2), (150, 1)), ((3, 2), (75, 1)), ((0, 1), (0, 1))]))
        self.assertEqual(rests_of(RUNNINGS, MIXING), [((5, 2), (50, 1)), ((1, 1), (50, 1)), ((1, 1), (80, 1))])
        self.check(RUNNINGS, MIXING)

    def test_empty_rows_and_no_rows_take_nothing(self):
        self.assertEqual(self.check(RUNNINGS, [[], []]), list(RUNNINGS))
        self.assertEqual(self.check(RUNNINGS, []), list(RUNNINGS))

    def test_all_of_all(self):
        mixing = [[(number, running[0]) for number, running in enumerate(RUNNINGS)]]
        self.assertEqual(self.check(RUNNINGS, mixing), [((0, 1), (0, 1))] * 3)

    def test_water(self):
        self.assertEqual(rests_of([((5, 1), (0, 1))], [[(0, (1, 3))]]), [((14, 3), (0, 1))])

    def test_many(self):
        rolls = dice(74)
        for at in range(100):
            runnings = random_runnings(rolls, 1 + at % 6)
            self.check(runnings, random_mixing(rolls, runnings, 1 + at % 4))

    def test_rests_of_rests(self):
        rests = rests_of(RUNNINGS, [[(2, (4, 1))]])
        self.assertEqual(rests_of(rests, [[(0, (1, 1))]]), [((9, 1), (180, 1)), MIDDLE, ((0, 1), (0, 1))])


if __name__ == "__main__":
    unittest.main()
