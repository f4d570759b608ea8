"""Tests of worts: point [4], and point [2] as far as it reaches them."""

import unittest
from fractions import Fraction

from mashrunnings.errors import TooMuch
from mashrunnings.fractions import plus
from mashrunnings.worts import is_wort, parted, points_of, poured, strength_of, weakened
from tests.samples import (
    any_thing, as_lists, as_mixture, changed_ones, dice, is_fraction_plainly, is_told_plainly, nested, pair_of,
    random_worth, random_wort, worth_of_pair, wort_of,
)

MALTS = ("a", "amber", "black", "brown", "crystal", "mild", "pale", "zzzzzzzz")
EMPTY = ((5, 2), ())
ALE = ((4, 1), (("brown", (7, 2)), ("pale", (60, 1))))
EIGHT = ((1, 3), tuple((malt, (at + 1, 7)) for at, malt in enumerate(MALTS[:6])) + (("pale", (1, 1)), ("zzzzzzzz", (8, 7))))
BIG = 10 ** 12
BIGGEST = wort_of(Fraction(BIG, BIG - 1), {malt: Fraction(BIG - at, BIG - at - 1) for at, malt in enumerate(MALTS)})


def is_fraction_above(thing):
    return is_fraction_plainly(thing) and thing[0] > 0


def is_malt(thing):
    return type(thing) is str and 1 <= len(thing) <= 8 and set(thing) <= set("abcdefghijklmnopqrstuvwxyz")


def is_wort_plainly(thing):
    if type(thing) is not tuple or len(thing) != 2 or not is_fraction_above(thing[0]):
        return False
    parts = thing[1]
    if type(parts) is not tuple or len(parts) > 8:
        return False
    for part in parts:
        if type(part) is not tuple or len(part) != 2 or not is_malt(part[0]) or not is_fraction_above(part[1]):
            return False
    return all(parts[at][0] < parts[at + 1][0] for at in range(len(parts) - 1))


def gallons_in(wort):
    return worth_of_pair(wort[0])


def points_in(wort):
    """A dict of Fractions by malts."""
    return {malt: worth_of_pair(points) for malt, points in wort[1]}


def many_worts(seed, many):
    rolls = dice(seed)
    return [EMPTY, ALE, EIGHT, BIGGEST] + [random_wort(rolls, MALTS) for _ in range(many)]


class WortsTest(unittest.TestCase):
    """What holds of every question: lists are as good as tuples, nothing is changed, the same is told again."""

    def ask(self, question, *things):
        told = question(*things)
        self.assertTrue(is_told_plainly(told), repr(told))
        lists = as_lists(things)
        self.assertEqual(repr(question(*lists)), repr(told))
        self.assertEqual(repr(lists), repr(as_lists(things)))
        mixed = as_mixture(things, dice(repr(things)))
        before = repr(mixed)
        self.assertEqual(repr(question(*mixed)), repr(told))
        self.assertEqual(repr(mixed), before)
        self.assertEqual(repr(question(*things)), repr(told))
        return told

    def refuse(self, question, *things):
        for handed in (things, as_lists(things)):
            before = repr(handed)
            with self.assertRaises(TooMuch) as caught:
                question(*handed)
            self.assertIs(type(caught.exception), TooMuch)
            self.assertEqual(repr(handed), before)


class IsWortTest(unittest.TestCase):
    def check(self, thing):
        before = repr(thing)
        self.assertIs(is_wort(thing), is_wort_plainly(thing), before)
        self.assertEqual(repr(thing), before)

    def test_right_ones(self):
        for wort in many_worts(41, 60):
            self.assertIs(is_wort(wort), True, repr(wort))

    def test_wrong_ones(self):
        pale, brown = ("pale", (60, 1)), ("brown", (7, 2))
        wrong = (
            ((0, 1), ()), ((-1, 1), ()), ((2, 4), ()), ((True, 1), ()), (1, ()), ([1, 1], ()), [(1, 1), ()], ((1, 1), []),
            ((1, 1), (pale, brown)), ((1, 1), (pale, pale)), ((1, 1), (pale, ("pale", (1, 1)))), ((1, 1), pale),
            ((1, 1), [pale]), ((1, 1), (list(pale),)), ((1, 1), (("pale", [60, 1]),)), ((1, 1), (("pale", (0, 1)),)),
            ((1, 1), (("pale", (-1, 1)),)), ((1, 1), (("pale", (2, 2)),)), ((1, 1), (("pale", 60),)),
            ((1, 1), (("Pale", (1, 1)),)), ((1, 1), (("", (1, 1)),)), ((1, 1), (("abcdefghi", (1, 1)),)),
            ((1, 1), (("pale1", (1, 1)),)), ((1, 1), ((None, (1, 1)),)), ((1, 1), ((1, (1, 1)),)), ((1, 1), (("pale",),)),
            ((1, 1), (("pale", (1, 1), 1),)), ((1, 1), ("pale",)), ((1, 1), "pale"), ((1, 1), ""), ((1, 1), None),
            ((1, 1),), ((1, 1), (), ()), (), [], None, True, False, 0, 1, "", "wort", (1, 1), ((), ()), ((1, 1), ((),)),
            ((1, 1), ((("pale",), (1, 1)),)), ((1, 1), (pale, None)), ((1, 1), (brown, (7, (1, 1)), pale)),
        )
        for thing in wrong:
            self.assertIs(is_wort(thing), False, repr(thing))

    def test_at_most_eight_malts(self):
        parts = tuple((malt, (1, 1)) for malt in "abcdefghij")
        for many in range(11):
            self.assertIs(is_wort(((1, 1), parts[:many])), many <= 8)

    def test_malts_in_any_other_order_are_wrong(self):
        rolls = dice(42)
        for _ in range(200):
            gallons, parts = random_wort(rolls, MALTS)
            self.check((gallons, tuple(rolls.sample(parts, len(parts)))))

    def test_ones_changed_at_one_place(self):
        for wort in (EMPTY, ALE, EIGHT):
            for thing in changed_ones(wort):
                self.check(thing)

    def test_anything_to_six_deep(self):
        rolls = dice(43)
        for _ in range(4000):
            self.check(any_thing(rolls, 6))
            self.check(((1, 1), any_thing(rolls, 5)))
            self.check(((1, 1), (("pale", any_thing(rolls, 3)),)))
            self.check(((1, 1), (any_thing(rolls, 4), ("pale", (1, 1)))))
        for deep in range(3):
            for thing in nested(ALE, deep) + nested(as_lists(ALE), deep):
                self.check(thing)

    def test_other_lists_than_tuples_are_wrong(self):
        rolls = dice(44)
        for _ in range(300):
            self.check(as_mixture(ALE, rolls))


class PointsTest(WortsTest):
    def test_examples(self):
        self.assertEqual(points_of(ALE), (127, 2))
        self.assertEqual(strength_of(ALE), (127, 8))
        self.assertEqual(points_of(EMPTY), (0, 1))
        self.assertEqual(strength_of(EMPTY), (0, 1))
        self.assertEqual(points_of(((1, 1), (("a", (1, 2)), ("b", (1, 2))))), (1, 1))

    def test_many(self):
        for wort in many_worts(45, 100):
            points = sum(points_in(wort).values())
            self.assertEqual(self.ask(points_of, wort), pair_of(points))
            self.assertEqual(self.ask(strength_of, wort), pair_of(points / gallons_in(wort)))


class PouredTest(WortsTest):
    def check(self, worts):
        told = self.ask(poured, worts)
        self.assertIs(is_wort(told), True)
        sums = {}
        for wort in worts:
            for malt, points in points_in(wort).items():
                sums[malt] = sums.get(malt, 0) + points
        self.assertEqual(told, wort_of(sum(gallons_in(wort) for wort in worts), sums))

    def test_examples(self):
        self.assertEqual(poured([ALE]), ALE)
        self.assertEqual(poured([EMPTY, EMPTY]), ((5, 1), ()))
        both = ((13, 2), (("brown", (7, 2)), ("pale", (60, 1))))
        self.assertEqual(poured([ALE, EMPTY]), both)
        self.assertEqual(poured((EMPTY, ALE)), both)
        other = ((1, 2), (("amber", (1, 1)), ("pale", (1, 3))))
        self.assertEqual(poured([ALE, other]), ((9, 2), (("amber", (1, 1)), ("brown", (7, 2)), ("pale", (181, 3)))))

    def test_one_to_thirty(self):
        rolls = dice(46)
        for many in range(1, 31):
            self.check([random_wort(rolls, MALTS, 10 ** 6) for _ in range(many)])
        self.check([EMPTY] * 30)
        self.check([EIGHT] * 30)

    def test_thirty_of_the_greatest(self):
        rolls = dice(47)
        for _ in range(3):
            self.check([random_wort(rolls, MALTS) for _ in range(30)])
        self.check([BIGGEST] * 30)

    def test_the_order_is_no_matter(self):
        rolls = dice(48)
        for many in (2, 3, 7, 30):
            worts = [random_wort(rolls, MALTS, 1000) for _ in range(many)]
            told = poured(worts)
            for _ in range(5):
                self.assertEqual(poured(rolls.sample(worts, many)), told)

    def test_told_ones_may_be_poured_again(self):
        rolls = dice(49)
        one, other = ([random_wort(rolls, MALTS) for _ in range(5)] for _ in range(2))
        self.assertEqual(poured([poured(one), poured(other)]), poured(one + other))


class PartedTest(WortsTest):
    def check(self, wort, gallons):
        taken, rest = self.ask(parted, wort, pair_of(gallons))
        whole = gallons_in(wort)
        share = gallons / whole
        self.assertIs(is_wort(taken), True)
        self.assertEqual(taken, wort_of(gallons, {malt: worth * share for malt, worth in points_in(wort).items()}))
        if share == 1:
            self.assertIsNone(rest)
            return
        self.assertIs(is_wort(rest), True)
        left = {malt: worth * (1 - share) for malt, worth in points_in(wort).items()}
        self.assertEqual(rest, wort_of(whole - gallons, left))
        self.assertEqual(poured([rest, taken]), wort)

    def test_examples(self):
        taken, rest = parted(ALE, (1, 1))
        self.assertEqual(taken, ((1, 1), (("brown", (7, 8)), ("pale", (15, 1)))))
        self.assertEqual(rest, ((3, 1), (("brown", (21, 8)), ("pale", (45, 1)))))
        self.assertEqual(parted(ALE, (4, 1)), (ALE, None))
        self.assertEqual(parted(EMPTY, (1, 1)), (((1, 1), ()), ((3, 2), ())))
        self.assertEqual(parted(EMPTY, (5, 2)), (EMPTY, None))

    def test_many_shares(self):
        for wort in many_worts(50, 40):
            whole = gallons_in(wort)
            for share in (Fraction(1, 2), Fraction(1, 3), Fraction(1, BIG), Fraction(BIG - 1, BIG), Fraction(1)):
                self.check(wort, whole * share)

    def test_more_than_there_is_is_refused(self):
        for wort in many_worts(51, 20):
            whole = gallons_in(wort)
            for more in (Fraction(1, BIG), Fraction(1), Fraction(BIG), whole):
                self.refuse(parted, wort, pair_of(whole + more))

    def test_the_rest_may_be_parted_again_until_nothing_is_left(self):
        rest = EIGHT
        taken = []
        for gallons in (Fraction(1, 12), Fraction(1, 100), Fraction(1, 999)):
            part, rest = parted(rest, pair_of(gallons))
            taken.append(part)
        self.refuse(parted, rest, plus(rest[0], (1, BIG)))
        last, nothing = parted(rest, rest[0])
        self.assertIsNone(nothing)
        self.assertEqual(poured(taken + [last]), EIGHT)


class WeakenedTest(WortsTest):
    def check(self, wort, points):
        left, gone = self.ask(weakened, wort, pair_of(points))
        before = points_in(wort)
        all_points = sum(before.values())
        share = points / all_points if all_points else Fraction(1)
        kept = {malt: worth * share for malt, worth in before.items() if worth * share}
        lost = {malt: worth * (1 - share) for malt, worth in before.items() if worth * (1 - share)}
        self.assertIs(is_wort(left), True)
        self.assertEqual(left, wort_of(gallons_in(wort), kept))
        self.assertEqual(gone, wort_of(1, lost)[1])
        self.assertEqual(points_of(left), pair_of(points))

    def test_examples(self):
        wort = ((3, 1), (("brown", (10, 1)), ("pale", (30, 1))))
        weaker = ((3, 1), (("brown", (5, 1)), ("pale", (15, 1))))
        self.assertEqual(weakened(wort, (20, 1)), (weaker, (("brown", (5, 1)), ("pale", (15, 1)))))
        self.assertEqual(weakened(wort, (0, 1)), (((3, 1), ()), wort[1]))
        self.assertEqual(weakened(wort, (40, 1)), (wort, ()))
        self.assertEqual(weakened(wort, (4, 1))[1], (("brown", (9, 1)), ("pale", (27, 1))))

    def test_a_wort_without_points(self):
        self.assertEqual(self.ask(weakened, EMPTY, (0, 1)), (EMPTY, ()))
        self.refuse(weakened, EMPTY, (1, BIG))
        self.refuse(weakened, EMPTY, (1, 1))

    def test_many_shares(self):
        for wort in many_worts(52, 40):
            points = sum(points_in(wort).values())
            for share in (Fraction(0), Fraction(1, 2), Fraction(2, 3), Fraction(1, BIG), Fraction(1)):
                self.check(wort, points * share)

    def test_more_than_there_are_is_refused(self):
        for wort in many_worts(53, 20):
            points = sum(points_in(wort).values())
            for more in (Fraction(1, BIG), random_worth(dice(54)), Fraction(BIG)):
                self.refuse(weakened, wort, pair_of(points + more))


if __name__ == "__main__":
    unittest.main()
