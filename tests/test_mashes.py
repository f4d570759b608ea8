"""Tests of mashes: point [5], and point [2] as far as it reaches them."""

import unittest
from fractions import Fraction

from mashrunnings.errors import TooMuch
from mashrunnings.mashes import Mash
from mashrunnings.worts import is_wort
from tests.samples import as_lists, as_mixture, dice, lists_in, pair_of, random_wort, random_worth, worth_of_pair, wort_of

NAMES = ("a", "amber", "black", "brown", "mild", "pale")
OTHERS = ("rye", "zzzzzzzz")
PALE = (("pale", 10, 30), ("brown", 4, 25))
BIG = 10 ** 12


def sums(*many):
    """Points by malts, together, those above nought."""
    together = {}
    for points in many:
        for malt, worth in points.items():
            together[malt] = together.get(malt, 0) + worth
    return {malt: worth for malt, worth in together.items() if worth}


def shared(points, share):
    return sums({malt: worth * share for malt, worth in points.items()})


def by_malt(parts):
    return {malt: worth_of_pair(points) for malt, points in parts}


def told_parts(points):
    """The list that is told of points by malts."""
    return list(wort_of(1, points)[1])


class Model:
    """A mash kept plainly, by Fractions."""

    def __init__(self, malts, share, held):
        self.share, self.held = Fraction(*share), held
        self.inside, self.solved = Fraction(0), {}
        self.grains = sums({malt: Fraction(pounds * points) for malt, pounds, points in malts})
        self.given, self.drawn = dict(self.grains), {}

    def fill(self, gallons, points):
        self.inside += gallons
        self.given = sums(self.given, points)
        self.solved = sums(self.solved, points, shared(self.grains, self.share))
        self.grains = shared(self.grains, 1 - self.share)

    def give_back(self, points):
        self.given, self.grains = sums(self.given, points), sums(self.grains, points)

    def most(self):
        return max(Fraction(0), self.inside - self.held)

    def draw(self, gallons):
        wort = wort_of(gallons, shared(self.solved, gallons / self.inside))
        self.solved = shared(self.solved, 1 - gallons / self.inside)
        self.inside -= gallons
        self.drawn = sums(self.drawn, by_malt(wort[1]))
        return wort


def state(mash):
    return repr((mash.inside(), mash.most_drawn(), mash.solved(), mash.in_grains()))


def random_malts(rolls):
    names = rolls.sample(NAMES, rolls.randint(1, 6))
    return tuple((malt, rolls.choice((1, 7, 10 ** 4)), rolls.choice((1, 29, 40))) for malt in names)


def random_share(rolls):
    below = rolls.randint(1, 12)
    return pair_of(Fraction(rolls.randint(1, below), below))


class MashTest(unittest.TestCase):
    def match(self, mash, model):
        """All that is told of a mash, twice, is what its model has, and nothing came or went, malt by malt."""
        for _ in range(2):
            self.assertEqual(repr(mash.inside()), repr(pair_of(model.inside)))
            self.assertEqual(repr(mash.most_drawn()), repr(pair_of(model.most())))
            self.assertEqual(repr(mash.solved()), repr(told_parts(model.solved)))
            self.assertEqual(repr(mash.in_grains()), repr(told_parts(model.grains)))
        self.assertEqual(sums(by_malt(mash.solved()), by_malt(mash.in_grains()), model.drawn), model.given)

    def refuse(self, mash, gallons):
        before = state(mash)
        for handed in (gallons, list(gallons), gallons):
            with self.assertRaises(TooMuch) as caught:
                mash.draw(handed)
            self.assertIs(type(caught.exception), TooMuch)
            self.assertEqual(state(mash), before)

    def draw(self, mash, model, gallons):
        handed = pair_of(gallons)
        wort = mash.draw(handed if handed[0] % 2 else list(handed))
        self.assertIs(is_wort(wort), True, repr(wort))
        self.assertEqual(wort, model.draw(gallons))
        self.match(mash, model)


class ExamplesTest(MashTest):
    def test_at_first_all_is_in_the_grains(self):
        mash = Mash(PALE, (1, 2), 5)
        self.assertEqual(mash.inside(), (0, 1))
        self.assertEqual(mash.most_drawn(), (0, 1))
        self.assertEqual(mash.solved(), [])
        self.assertEqual(mash.in_grains(), [("brown", (100, 1)), ("pale", (300, 1))])

    def test_one_mash_drawn_twice(self):
        mash = Mash(PALE, (1, 2), 4)
        self.assertIsNone(mash.liquor(20))
        self.assertEqual(mash.solved(), [("brown", (50, 1)), ("pale", (150, 1))])
        self.assertEqual(mash.in_grains(), [("brown", (50, 1)), ("pale", (150, 1))])
        self.assertEqual(mash.most_drawn(), (16, 1))
        self.assertEqual(mash.draw((10, 1)), ((10, 1), (("brown", (25, 1)), ("pale", (75, 1)))))
        self.assertEqual(mash.inside(), (10, 1))
        self.assertEqual(mash.most_drawn(), (6, 1))
        self.assertIsNone(mash.liquor(10))
        self.assertEqual(mash.in_grains(), [("brown", (25, 1)), ("pale", (75, 1))])
        self.assertEqual(mash.draw((5, 1)), ((5, 1), (("brown", (25, 2)), ("pale", (75, 2)))))

    def test_a_wort_poured_is_solved_behind_which_the_grains_give(self):
        mash = Mash(PALE, (1, 10), 0)
        self.assertIsNone(mash.pour(((5, 2), (("brown", (1, 3)), ("rye", (7, 1))))))
        self.assertEqual(mash.inside(), (5, 2))
        self.assertEqual(mash.solved(), [("brown", (31, 3)), ("pale", (30, 1)), ("rye", (7, 1))])
        self.assertEqual(mash.in_grains(), [("brown", (90, 1)), ("pale", (270, 1))])

    def test_points_given_back_are_in_the_grains(self):
        mash = Mash(PALE, (1, 1), 0)
        mash.liquor(1)
        self.assertEqual(mash.in_grains(), [])
        self.assertIsNone(mash.give_back([("rye", (1, 3)), ("zz", (2, 1))]))
        self.assertIsNone(mash.give_back((("brown", (5, 1)), ("rye", (1, 6)))))
        self.assertIsNone(mash.give_back([]))
        self.assertEqual(mash.in_grains(), [("brown", (5, 1)), ("rye", (1, 2)), ("zz", (2, 1))])
        self.assertEqual(mash.solved(), [("brown", (100, 1)), ("pale", (300, 1))])
        mash.liquor(1)
        self.assertEqual(mash.solved(), [("brown", (105, 1)), ("pale", (300, 1)), ("rye", (1, 2)), ("zz", (2, 1))])

    def test_points_of_nought_are_left_out(self):
        mash = Mash(PALE, (1, 1), 0)
        mash.liquor(3)
        self.assertEqual(mash.in_grains(), [])
        self.assertEqual(mash.draw((3, 1)), ((3, 1), (("brown", (100, 1)), ("pale", (300, 1)))))
        self.assertEqual((mash.inside(), mash.solved(), mash.in_grains()), ((0, 1), [], []))

    def test_a_wort_of_water_alone_has_no_malts(self):
        mash = Mash(PALE, (1, 1), 0)
        mash.liquor(3)
        mash.draw((3, 1))
        mash.liquor(2)
        self.assertEqual(mash.draw((1, 1)), ((1, 1), ()))
        mash.pour(((1, 2), ()))
        self.assertEqual(mash.draw([3, 2]), ((3, 2), ()))
        self.refuse(mash, (1, BIG))


class RefusedTest(MashTest):
    def test_ahead_of_any_liquor(self):
        for held in (0, 1, 10 ** 4):
            mash = Mash(PALE, (1, 2), held)
            self.refuse(mash, (1, BIG))
            self.refuse(mash, (held + 1, 1))

    def test_no_more_in_it_than_the_grains_hold_back(self):
        for gallons, held in ((1, 1), (1, 2), (10 ** 4, 10 ** 4), (3, 10 ** 4)):
            mash = Mash(PALE, (1, 2), held)
            mash.liquor(gallons)
            self.assertEqual(mash.most_drawn(), (0, 1))
            self.refuse(mash, (1, BIG))
            self.refuse(mash, (gallons, 1))

    def test_just_more_than_can_be_drawn_and_just_that(self):
        for held in (0, 1, 7):
            mash = Mash(PALE, (2, 3), held)
            mash.liquor(10)
            most = 10 - held
            self.refuse(mash, pair_of(most + Fraction(1, BIG)))
            self.refuse(mash, pair_of(most + 1))
            self.assertEqual(mash.draw((most, 1))[0], (most, 1))
            self.assertEqual(mash.most_drawn(), (0, 1))
            self.refuse(mash, (1, BIG))


    def test_nought_is_beyond_the_bounds_but_no_error(self):
        for mash in (Mash(PALE, (1, 2), 0), Mash(PALE, (1, 2), 3)):
            before = state(mash)
            self.assertEqual(mash.draw((0, 1)), ((0, 1), ()))
            self.assertEqual(state(mash), before)


class ManyDeedsTest(MashTest):
    def deed(self, rolls, mash, model):
        """One deed by chance, done to both."""
        what = rolls.choice(("liquor", "pour", "give", "share", "all", "more"))
        if what == "liquor":
            gallons = rolls.choice((1, 30, 10 ** 4))
            self.assertIsNone(mash.liquor(gallons))
            model.fill(gallons, {})
        elif what == "pour":
            wort = random_wort(rolls, NAMES + OTHERS, 1000)
            self.assertIsNone(mash.pour(as_mixture(wort, rolls)))
            model.fill(worth_of_pair(wort[0]), by_malt(wort[1]))
        elif what == "give":
            parts = random_wort(rolls, NAMES + OTHERS, 1000)[1]
            self.assertIsNone(mash.give_back(as_mixture(parts, rolls)))
            model.give_back(by_malt(parts))
        elif what == "more":
            self.refuse(mash, pair_of(model.most() + Fraction(1, rolls.choice((1, BIG)))))
        elif model.most():
            self.draw(mash, model, model.most() * (1 if what == "all" else Fraction(rolls.randint(1, 9), 10)))
        self.match(mash, model)

    def test_against_a_plain_model(self):
        for seed in range(60):
            rolls = dice(f"mash {seed}")
            malts, share = random_malts(rolls), random_share(rolls)
            held = rolls.choice((0, 0, 1, 25, 10 ** 4))
            mash = Mash(as_mixture(malts, rolls), as_mixture(share, rolls), held)
            model = Model(malts, share, held)
            self.match(mash, model)
            for _ in range(25):
                self.deed(rolls, mash, model)

    def test_thirty_liquors_and_draws(self):
        rolls = dice("thirty")
        malts = tuple((malt, 10 ** 4, 40) for malt in NAMES)
        mash, model = Mash(malts, (11, 12), 7), Model(malts, (11, 12), 7)
        for _ in range(30):
            mash.liquor(10 ** 4)
            model.fill(10 ** 4, {})
            self.draw(mash, model, model.most() * Fraction(1, 1 + random_worth(rolls)))

    def test_told_worts_may_be_poured_again(self):
        mash, model = Mash(PALE, (1, 3), 2), Model(PALE, (1, 3), 2)
        mash.liquor(12)
        model.fill(12, {})
        for _ in range(6):
            wort = mash.draw(mash.most_drawn())
            self.assertEqual(model.draw(model.most()), wort)
            mash.pour(wort)
            # What is poured counts as given once more, as it counted as drawn.
            model.fill(worth_of_pair(wort[0]), by_malt(wort[1]))
            self.match(mash, model)


class OwnThingsTest(MashTest):
    def test_what_was_handed_in_may_be_changed_later(self):
        malts, share, gallons = as_lists(PALE), [1, 2], [3, 4]
        wort, parts = as_lists(((2, 1), (("rye", (1, 1)),))), as_lists((("pale", (1, 2)),))
        mash = Mash(malts, share, 1)
        mash.pour(wort)
        mash.give_back(parts)
        drawn = mash.draw(gallons)
        words = state(mash), repr(drawn)
        self.assertEqual((malts, share, gallons), (as_lists(PALE), [1, 2], [3, 4]))
        self.assertEqual((parts, wort), ([["pale", [1, 2]]], [[2, 1], [["rye", [1, 1]]]]))
        for handed in (malts, share, gallons, wort, parts):
            for found in lists_in(handed):
                found.clear()
        self.assertEqual((state(mash), repr(drawn)), words)
        other = Mash(PALE, (1, 2), 1)
        other.pour(((2, 1), (("rye", (1, 1)),)))
        other.give_back((("pale", (1, 2)),))
        other.draw((3, 4))
        mash.liquor(1)
        other.liquor(1)
        self.assertEqual(state(mash), state(other))

    def test_told_lists_are_the_askers_own(self):
        mash = Mash(PALE, (1, 2), 1)
        mash.liquor(4)
        before = state(mash)
        told = [mash.solved(), mash.solved(), mash.in_grains(), mash.in_grains()]
        self.assertEqual(len({id(found) for found in told}), 4)
        for found in told:
            self.assertIs(type(found), list)
            for part in found:
                self.assertEqual([type(part), type(part[1])], [tuple, tuple])
            found.append(("spoilt", (1, 1)))
        self.assertEqual(state(mash), before)

    def test_mashes_of_one_list_stay_apart(self):
        malts = as_lists(PALE)
        one, other = Mash(malts, (1, 2), 0), Mash(malts, (1, 2), 0)
        before = state(other)
        one.liquor(3)
        one.draw((1, 1))
        one.give_back([("pale", (1, 1))])
        self.assertEqual(state(other), before)

    def deeds(self, mash):
        mash.liquor(7)
        mash.pour(((1, 1), (("rye", (3, 1)),)))
        mash.give_back([("wheat", (1, 7))])
        return mash.draw((5, 3))

    def test_twins_have_the_same_and_stay_apart(self):
        mash = Mash(PALE, (2, 5), 3)
        self.deeds(mash)
        before = state(mash)
        twin = mash.twin_mash()
        self.assertIs(type(twin), Mash)
        self.assertIsNot(twin, mash)
        self.assertEqual(state(twin), before)
        first = self.deeds(twin)
        self.assertEqual(state(mash), before)
        ahead = state(twin)
        self.assertNotEqual(ahead, before)
        self.assertEqual(self.deeds(mash), first)
        self.assertEqual(state(mash), ahead)
        self.deeds(mash)
        self.assertEqual(state(twin), ahead)

    def test_a_twin_of_a_new_mash_and_a_twins_twin(self):
        twin = Mash(PALE, (1, 2), 9).twin_mash().twin_mash()
        self.assertEqual(state(twin), state(Mash(PALE, (1, 2), 9)))
        twin.liquor(10)
        self.assertEqual(twin.most_drawn(), (1, 1))
        self.refuse(twin, (2, 1))


if __name__ == "__main__":
    unittest.main()
