"""Tests of a running that came out weaker: point [11], and points [1] and [2] as far as they reach it."""

import itertools
import unittest
from fractions import Fraction

from mashrunnings.making import made_of, shows_none
from mashrunnings.mixings import shows_mixing
from mashrunnings.weaker import fewest_changed, made_weaker, shows_fewest, still_good
from tests.samples import (
    QuestionTest, are_prices_plainly, changed_ones, deep_things, dice, is_told_mixing, lists_in, mixing_plainly,
    none_plainly, pair_of, random_mixing, random_runnings, reached_wishes, running_worths, shared_lists, whole_brew,
    with_part, worth_of_pair,
)

# The ale is mixed of the first running, the porter of the second one, of which a gallon, or nothing, is left.
FIRST, SECOND, JUST = ((10, 1), (400, 1)), ((11, 1), (660, 1)), ((10, 1), (600, 1))
WISHES = (("ale", 10, 40, 60), ("porter", 10, 45, 60))
MIXING = [[(0, (10, 1))], [(1, (10, 1))]]
DROP = Fraction(1, 10 ** 12)


def rests_plainly(runnings, rows):
    """What is left of the runnings by these rows, pairs of fractions."""
    left = [gallons for gallons, _ in running_worths(runnings)]
    for row in rows:
        for number, gallons in row:
            left[number] -= worth_of_pair(gallons)
    return [(pair_of(gallons), pair_of(gallons * worth)) for gallons, (_, worth) in zip(left, running_worths(runnings))]


def failed_plainly(runnings, wishes, mixing, places, prices):
    """Whether prices show that changing the wishes at these places alone doesn't do."""
    rests = rests_plainly(runnings, [row for place, row in enumerate(mixing) if place not in places])
    if not are_prices_plainly(runnings, prices):
        return False
    kept = [(rest, price) for rest, price in zip(rests, prices) if rest[0] != (0, 1)]
    if any(rest[0] == (0, 1) and price != (0, 1) for rest, price in zip(rests, prices)):
        return False
    changed = [wishes[place] for place in places]
    if not kept:
        return len(changed) > 0
    return none_plainly([rest for rest, _ in kept], changed, [price for _, price in kept])


def good_plainly(runnings, wishes, mixing):
    worths = running_worths(runnings)
    found = []
    for place, (wish, row) in enumerate(zip(wishes, mixing)):
        gallons = sum(worth_of_pair(part) for _, part in row)
        points = sum(worth_of_pair(part) * worths[number][1] for number, part in row)
        if wish[2] * gallons <= points <= wish[3] * gallons:
            found.append(place)
    return found


def weaker_plainly(runnings, number, points):
    return [(gallons, points if at == number else before) for at, (gallons, before) in enumerate(runnings)]


def lists_plainly(runnings, wishes, mixing, many):
    """All lists of so many places that have all that aren't still good, in rising order."""
    spoilt = set(range(len(wishes))) - set(good_plainly(runnings, wishes, mixing))
    if many < 0:
        return []
    return [list(places) for places in itertools.combinations(range(len(wishes)), many) if spoilt <= set(places)]


def fewest_plainly(runnings, wishes, mixing, number, points, many, thing):
    then = weaker_plainly(runnings, number, points)
    lists = lists_plainly(then, wishes, mixing, many - 1)
    if type(thing) not in (list, tuple) or len(thing) != len(lists):
        return False
    for places, part in zip(lists, thing):
        if type(part) is not tuple or len(part) != 2 or type(part[0]) not in (list, tuple):
            return False
        if [type(place) for place in part[0]] != [int] * len(places) or list(part[0]) != places:
            return False
        if not failed_plainly(then, wishes, mixing, places, part[1]):
            return False
    return True


class MadeWeakerTest(QuestionTest):
    def test_examples(self):
        told = made_weaker([FIRST, SECOND], 1, (1, 3))
        self.assertEqual(repr(told), repr([FIRST, ((11, 1), (1, 3))]))
        self.assertEqual(made_weaker([FIRST, SECOND], 0, (0, 1)), [((10, 1), (0, 1)), SECOND])

    def test_many(self):
        rolls = dice(111)
        for at in range(60):
            runnings = random_runnings(rolls, 1 + at % 6)
            number = rolls.randrange(len(runnings))
            points = pair_of(worth_of_pair(runnings[number][1]) * Fraction(rolls.randint(0, 9), 10))
            self.assertEqual(repr(self.ask(made_weaker, runnings, number, points)), repr(weaker_plainly(runnings, number, points)))


class StillGoodTest(QuestionTest):
    def test_examples(self):
        self.assertEqual(still_good([FIRST, SECOND], WISHES, MIXING), [0, 1])
        self.assertEqual(still_good([((10, 1), (399, 1)), SECOND], WISHES, MIXING), [1])
        self.assertEqual(still_good([FIRST, ((11, 1), (494, 1))], WISHES, MIXING), [0])
        self.assertEqual(still_good([FIRST, ((11, 1), (495, 1))], WISHES, MIXING), [0, 1])
        self.assertEqual(still_good([((10, 1), (0, 1)), ((11, 1), (0, 1))], WISHES, MIXING), [])
        # Runnings may be stronger too, and have fewer gallons than the rows take.
        self.assertEqual(still_good([((10, 1), (600, 1)), ((11, 1), (661, 1))], WISHES, MIXING), [0])
        self.assertEqual(still_good([((1, 1), (40, 1)), ((1, 1), (60, 1))], WISHES, MIXING), [0, 1])

    def test_many(self):
        rolls = dice(112)
        for at in range(150):
            runnings = random_runnings(rolls, 1 + at % 6)
            wishes = reached_wishes(rolls, 1 + at % 4, runnings)
            mixing = random_mixing(rolls, runnings, len(wishes))
            found = good_plainly(runnings, wishes, mixing)
            self.assertEqual(repr(self.ask(still_good, runnings, wishes, mixing)), repr(found))


class FewestChangedTest(QuestionTest):
    def check(self, runnings, wishes, mixing, number, points):
        """What is told is right, and how many are changed: nought, so many, or None."""
        self.assertIs(shows_mixing(runnings, wishes, mixing), True)
        told = self.ask(fewest_changed, runnings, wishes, mixing, number, points)
        self.assertEqual((type(told), len(told)), (tuple, 3))
        places, other, paper = told
        then = weaker_plainly(runnings, number, points)
        if places is None:
            self.assertIsNone(other)
            self.assertIs(type(paper), list)
            self.assertIs(shows_none(then, wishes, paper), True)
            self.assertTrue(none_plainly(then, wishes, paper))
            return None
        self.right_ones(then, wishes, mixing, told)
        self.assertIs(shows_fewest(runnings, wishes, mixing, number, points, len(places), paper), True)
        self.assertTrue(fewest_plainly(runnings, wishes, mixing, number, points, len(places), paper))
        return len(places)

    def right_ones(self, then, wishes, mixing, told):
        """The other mixing makes the wishes and changes just the told places, the least list of the shortest ones."""
        places, other, paper = told
        self.assertIs(type(places), list)
        self.assertTrue(is_told_mixing(other), repr(other))
        self.assertTrue(mixing_plainly(then, wishes, other))
        good = good_plainly(then, wishes, mixing)
        rows = list(enumerate(zip(mixing, other)))
        self.assertEqual([at for at, (one, row) in rows if list(one) != row or at not in good], places)
        self.assertIs(type(paper), list)
        for part in paper:
            self.assertEqual([type(part), type(part[0]), type(part[1])], [tuple, list, list])
        self.assertEqual(places, self.least_list(then, wishes, mixing))

    def least_list(self, then, wishes, mixing):
        """The first list of places that does, all shorter ones looked at, each shown by a mixing or by prices."""
        for many in range(len(wishes) + 1):
            for places in lists_plainly(then, wishes, mixing, many):
                if not places:
                    return []
                rests = rests_plainly(then, [row for place, row in enumerate(mixing) if place not in places])
                kept = [rest for rest in rests if rest[0] != (0, 1)]
                changed = [wishes[place] for place in places]
                row, prices = made_of(kept, changed) if kept else (None, ())
                if row is not None:
                    self.assertTrue(mixing_plainly(kept, changed, row))
                    return places
                self.assertTrue(not kept or none_plainly(kept, changed, prices))
        return None

    def test_all_are_still_good(self):
        told = fewest_changed([SECOND], [WISHES[1]], [[(0, (10, 1))]], 0, (495, 1))
        self.assertEqual(repr(told), repr(([], [[(0, (10, 1))]], [])))
        self.assertEqual(self.check([SECOND], [WISHES[1]], [[(0, (10, 1))]], 0, (495, 1)), 0)
        self.assertEqual(self.check([FIRST, SECOND], WISHES, MIXING, 1, (495, 1)), 0)
        self.assertEqual(fewest_changed([FIRST, SECOND], WISHES, MIXING, 1, (495, 1)), ([], MIXING, []))

    def test_the_told_mixing_is_the_askers_own(self):
        mixing = [list(row) for row in MIXING]
        places, other, paper = fewest_changed([FIRST, SECOND], WISHES, mixing, 1, (495, 1))
        self.assertEqual(shared_lists([places, other, paper, mixing]), [])
        for found in lists_in((places, other, paper)):
            found.append(1)
        self.assertEqual(mixing, MIXING)
        told = fewest_changed([FIRST, SECOND], WISHES, [[[0, [10, 1]]], ([1, [10, 1]],)], 1, [495, 1])
        self.assertEqual(repr(told), repr(([], MIXING, [])))

    def test_one_is_changed(self):
        runnings = [FIRST, ((20, 1), (1200, 1))]
        self.assertEqual(self.check(runnings, WISHES, MIXING, 0, (300, 1)), 1)
        self.assertEqual(fewest_changed(runnings, WISHES, MIXING, 0, (300, 1))[::2], ([0], []))

    def test_more_than_those_that_are_not_good(self):
        for second in (SECOND, JUST):
            places, other, paper = fewest_changed([FIRST, second], WISHES, MIXING, 0, (300, 1))
            self.assertEqual((places, len(paper), paper[0][0]), ([0, 1], 1, [0]))
            self.assertEqual(self.check([FIRST, second], WISHES, MIXING, 0, (300, 1)), 2)
        # Of the second one, nothing is left for the ale.
        self.assertEqual(paper[0][1][1], (0, 1))

    def test_they_can_not_be_made_at_all(self):
        for points in ((0, 1), (200, 1), (249, 1)):
            self.assertIsNone(self.check([FIRST, JUST], WISHES, MIXING, 0, points))
        self.assertEqual(self.check([FIRST, JUST], WISHES, MIXING, 0, (250, 1)), 2)
        self.assertIsNone(self.check([FIRST, JUST], WISHES, MIXING, 0, pair_of(250 - DROP)))

    def test_of_several_lists_as_short_the_least_one(self):
        # Either one of the two others can give up some of the strong running.
        runnings = [((4, 1), (80, 1)), ((20, 1), (1200, 1)), ((30, 1), (300, 1))]
        wishes = [("b", 8, 40, 60), ("a", 4, 20, 20), ("c", 12, 40, 60)]
        mixing = [[(1, (8, 1))], [(0, (4, 1))], [(1, (12, 1))]]
        self.assertEqual(fewest_changed(runnings, wishes, mixing, 0, (40, 1))[0], [0, 1])
        self.assertEqual(self.check(runnings, wishes, mixing, 0, (40, 1)), 2)
        # The second one of them alone can, where the first one must stay as strong as it is.
        wishes[0] = ("b", 8, 60, 60)
        self.assertEqual(fewest_changed(runnings, wishes, mixing, 0, (40, 1))[0], [1, 2])
        self.assertEqual(self.check(runnings, wishes, mixing, 0, (40, 1)), 2)

    def brews(self, rolls, many):
        """Runnings, wishes and mixings of them: some need all that there is, some leave much."""
        found = []
        while len(found) < many:
            if rolls.random() < 0.5:
                runnings, wishes, mixing = whole_brew(rolls, rolls.randint(1, 6), rolls.randint(1, 4))
                wishes = [(beer, gallons, max(0, least - rolls.choice((0, 4))), most) for beer, gallons, least, most in wishes]
            else:
                runnings = random_runnings(rolls, rolls.randint(1, 6), 30)
                wishes = reached_wishes(rolls, rolls.randint(1, 4), runnings, 30)
                mixing = made_of(runnings, wishes)[0]
            if mixing is not None:
                found.append((runnings, wishes, mixing))
        return found

    def test_many(self):
        rolls = dice(113)
        seen = []
        for runnings, wishes, mixing in self.brews(rolls, 360):
            number = rolls.randrange(len(runnings))
            if runnings[number][1] != (0, 1):
                share = rolls.choice((Fraction(0), Fraction(1, 2), Fraction(9, 10), Fraction(99, 100), 1 - DROP))
                points = pair_of(worth_of_pair(runnings[number][1]) * share)
                told = self.check(runnings, wishes, mixing, number, points)
                spoilt = len(wishes) - len(good_plainly(weaker_plainly(runnings, number, points), wishes, mixing))
                seen.append((told, None if told is None else told > spoilt))
        for kind in ((None, None), (0, False), (1, False), (2, False), (2, True), (3, True), (4, True)):
            self.assertIn(kind, seen)


class ShowsFewestTest(QuestionTest):
    def check(self, second, many, thing, points=(300, 1)):
        things = ([FIRST, second], WISHES, MIXING, 0, points, many, thing)
        told = self.look(shows_fewest, *things)
        self.assertIs(told, fewest_plainly(*things), repr(thing))
        return told

    def paper(self, second):
        return fewest_changed([FIRST, second], WISHES, MIXING, 0, (300, 1))[2]

    def test_a_good_paper(self):
        for second in (SECOND, JUST):
            paper = self.paper(second)
            (places, prices), = paper
            for thing in (paper, tuple(paper), [(tuple(places), prices)], ((places, tuple(prices)),)):
                self.assertIs(self.check(second, 2, thing), True)
            for thing in ([list(paper[0])], [places, prices], paper[0], paper + paper, [], (), None, [paper], prices):
                self.assertIs(self.check(second, 2, thing), False, repr(thing))

    def test_runnings_with_nothing_left_have_price_nought(self):
        self.assertIs(self.check(JUST, 2, [([0], [(0, 1), (0, 1)])]), True)
        self.assertIs(self.check(JUST, 2, [([0], [(7, 3), (0, 1)])]), True)
        self.assertIs(self.check(JUST, 2, [([0], [(0, 1), (1, 1)])]), False)
        self.assertIs(self.check(JUST, 2, [([0], [(7, 3), pair_of(DROP)])]), False)

    def test_of_what_is_left_the_prices_must_show_it(self):
        self.assertIs(self.check(SECOND, 2, [([0], [(0, 1), (1, 1)])]), True)
        self.assertIs(self.check(SECOND, 2, [([0], [(0, 1), (0, 1)])]), False)
        self.assertIs(self.check(SECOND, 2, [([0], [(1, 1), (0, 1)])]), False)

    def test_other_places(self):
        for places in ([1], [], [0, 1], [0, 0], [False], [True], [None], ["0"], [(0,)], 0, None, "0", ["a"], [-2]):
            self.assertIs(self.check(SECOND, 2, [(places, [(0, 1), (1, 1)])]), False, repr(places))

    def test_many_is_how_many_are_not_good_or_less(self):
        for many in (0, 1):
            for thing in ([], ()):
                self.assertIs(self.check(SECOND, many, thing), True)
            for thing in ([([], [(0, 1), (1, 1)])], [([0], [(0, 1), (1, 1)])], None, 0, "", False, [()], [[]]):
                self.assertIs(self.check(SECOND, many, thing), False, repr(thing))

    def test_where_all_are_still_good_none_need_be_changed(self):
        self.assertEqual(still_good(made_weaker([FIRST, SECOND], 0, (400, 1)), WISHES, MIXING), [0, 1])
        self.assertIs(self.check(SECOND, 0, [], (400, 1)), True)
        for many in (1, 2):
            for thing in ([], [([], [(0, 1), (1, 1)])], [([], [(0, 1), (0, 1)])], [([], [(1, 1), (1, 1)])]):
                self.assertIs(self.check(SECOND, many, thing, (400, 1)), False, repr(thing))

    def test_more_than_must_be_changed_is_not_shown(self):
        runnings = [FIRST, ((20, 1), (1200, 1))]
        for prices in ([(0, 1), (1, 1)], [(1, 1), (0, 1)], [(1, 1), (1, 1)], [(0, 1), (0, 1)]):
            self.assertIs(shows_fewest(runnings, WISHES, MIXING, 0, (300, 1), 2, [([0], prices)]), False)
        self.assertIs(shows_fewest(runnings, WISHES, MIXING, 0, (300, 1), 1, []), True)

    def test_ones_changed_at_one_place(self):
        for second, prices in ((SECOND, [(0, 1), (1, 1)]), (JUST, [(2, 1), (0, 1)])):
            for good in ([([0], prices)], (((0,), tuple(prices)),)):
                self.assertIs(self.check(second, 2, good), True)
                for thing in changed_ones(good):
                    self.check(second, 2, thing)

    def test_anything_to_six_deep(self):
        rolls = dice(114)
        for _ in range(1500):
            for thing in deep_things(rolls, [([0], [(0, 1), (1, 1)])]):
                for many in (0, 1, 2):
                    self.check(SECOND, many, thing)

    def test_papers_of_several_lists(self):
        runnings = [((4, 1), (80, 1)), ((20, 1), (1200, 1)), ((30, 1), (300, 1))]
        wishes = [("b", 8, 60, 60), ("a", 4, 20, 20), ("c", 12, 60, 60), ("d", 1, 10, 10)]
        mixing = [[(1, (8, 1))], [(0, (4, 1))], [(1, (12, 1))], [(2, (1, 1))]]
        things = (runnings, wishes, mixing, 0, (40, 1))
        self.assertIsNone(fewest_changed(*things)[0])
        # Whatever is changed, it doesn't do, so each list of two has prices: nothing of the strong one can be spared.
        prices = [(0, 1), (1, 1), (0, 1)]
        spare = [([0, 1], prices), ([1, 2], prices), ([1, 3], [(0, 1)] * 3)]
        for many, thing, right in (
            (3, spare, True), (3, tuple(spare), True), (3, spare[:2], False), (3, spare[1:], False), (3, spare[::-1], False),
            (3, [spare[1], spare[0], spare[2]], False), (3, spare + spare[2:], False), (3, [spare[0]] * 3, False),
            (3, [([0, True], prices)] + spare[1:], False), (3, [([False, 1], prices)] + spare[1:], False),
            (2, [([1], [(0, 1)] * 3)], True), (2, [([True], [(0, 1)] * 3)], False), (2, spare, False), (4, spare, False), (1, [], True), (0, [], True), (2, [], False),
        ):
            told = self.look(shows_fewest, *things, many, thing)
            self.assertIs(told, fewest_plainly(*things, many, thing))
            self.assertIs(told, right, (many, thing))

    def test_spoilt_papers_of_many(self):
        rolls = dice(115)
        seen = []
        for runnings, wishes, mixing in FewestChangedTest().brews(rolls, 120):
            number = rolls.randrange(len(runnings))
            points = pair_of(worth_of_pair(runnings[number][1]) * rolls.choice((Fraction(1, 2), Fraction(9, 10))))
            places, _, paper = fewest_changed(runnings, wishes, mixing, number, points)
            if not places or not paper:
                continue
            things = (runnings, wishes, mixing, number, points)
            for many in range(len(wishes) + 1):
                self.assertIs(shows_fewest(*things, many, paper), fewest_plainly(*things, many, paper))
            at = rolls.randrange(len(paper))
            for factor, one in itertools.product((0, 1 - DROP, 1 + DROP, 2), range(len(runnings))):
                price = pair_of(worth_of_pair(paper[at][1][one]) * factor)
                for thing in (with_part(paper, (at, 1, one), price), with_part(paper, (at, 1, one), (1, 1))):
                    seen.append(self.look(shows_fewest, *things, len(places), thing))
                    self.assertIs(seen[-1], fewest_plainly(*things, len(places), thing))
        self.assertEqual(set(seen), {True, False})


if __name__ == "__main__":
    unittest.main()
