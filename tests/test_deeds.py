"""Tests of deeds: point [13], and point [2] as far as it reaches them."""

import unittest

from mashrunnings.deeds import is_deed, names_in
from tests.brews import DEEDS, MALTS, RUNNINGS, WIDE_DEEDS, is_deed_plainly, random_deed
from tests.samples import QuestionTest, any_thing, as_lists, changed_ones, deep_things, dice, nested, with_part

MASH, LIQUOR, DRAW, WEAKER, RETURN, MIX, RACK, SPILL, SELL = DEEDS
# Where in each form the names, and where the gallons are.
NAME_PLACES = ((MASH, (1,)), (LIQUOR, (1,)), (DRAW, (1, 3)), (WEAKER, (1,)), (RETURN, (1, 3)), (MIX, (1,)), (RACK, (1, 3)),
               (SPILL, (2,)), (SELL, (1,)))
GALLONS_PATHS = ((LIQUOR, (2,)), (DRAW, (2,)), (RETURN, (2,)), (RACK, (2,)), (SPILL, (3,)), (MIX, (2, 0, 1)), (MIX, (2, 1, 1)))
BAD_NAMES = ("", "abcdefghi", "A", "a b", "a1", "a\n", "-", None, 1, True, ("a",), ["a"])


class IsDeedTest(QuestionTest):
    def good(self, thing):
        self.assertIs(self.look(is_deed, thing), True, repr(thing))

    def bad(self, thing):
        self.assertIs(self.look(is_deed, thing), False, repr(thing))

    def test_each_form(self):
        for deed in DEEDS + WIDE_DEEDS:
            self.good(deed)
            self.bad(list(deed))
            self.bad(as_lists(deed))

    def test_malts_and_parts_are_lists_or_tuples_of_tuples(self):
        for deed in (MASH, MIX):
            self.good(with_part(deed, (2,), list(deed[2])))
            self.bad(with_part(deed, (2,), as_lists(deed[2])))
            self.bad(with_part(deed, (2, 0), list(deed[2][0])))
            self.bad(with_part(deed, (2,), deed[2][0]))
            self.bad(with_part(deed, (2,), "ab"))
            self.bad(with_part(deed, (2,), None))

    def test_one_thing_more_and_one_fewer(self):
        for deed in DEEDS + WIDE_DEEDS:
            for more in (1, "a", None, ()):
                self.bad(deed + (more,))
            self.bad(deed[:-1])
            self.bad(deed[:1] + deed[2:])
            self.bad(deed[:1])
            self.bad(deed[1:])
        self.bad(())

    def test_the_first_word(self):
        for deed in DEEDS:
            for word in ("", "Mash", "mash ", "brew", "mixed", "pour", None, 0, True, ("mash",), ["mash"], [], ()):
                self.bad((word,) + deed[1:])
            for other in DEEDS:
                thing = (other[0],) + deed[1:]
                self.assertIs(self.look(is_deed, thing), is_deed_plainly(thing), repr(thing))

    def test_names(self):
        for deed, places in NAME_PLACES:
            for place in places:
                for name in ("a", "abcdefgh", "mash", "zzzzzzzz"):
                    self.good(with_part(deed, (place,), name))
                for name in BAD_NAMES:
                    self.bad(with_part(deed, (place,), name))
        for name in BAD_NAMES:
            self.bad(with_part(MASH, (2, 1, 0), name))
            self.bad(with_part(MIX, (2, 1, 0), name))

    def test_gallons_at_and_beyond_their_bounds(self):
        for deed, path in GALLONS_PATHS:
            for gallons in (1, 2, 10 ** 4):
                self.good(with_part(deed, path, gallons))
            for gallons in (0, -1, 10 ** 4 + 1, 10 ** 12, True, False, None, "5", (5, 1), [5], ()):
                self.bad(with_part(deed, path, gallons))

    def test_points_of_a_weaker_running(self):
        for points in (0, 1, 10 ** 7):
            self.good(("weaker", "a", points))
        for points in (-1, 10 ** 7 + 1, True, False, None, (0, 1), "0"):
            self.bad(("weaker", "a", points))

    def test_pounds_points_and_held(self):
        for path, least, most in (((2, 0, 1), 1, 10 ** 4), ((2, 1, 1), 1, 10 ** 4), ((2, 0, 2), 1, 40), ((4,), 0, 10 ** 4)):
            for number in (least, least + 1, most - 1, most):
                self.good(with_part(MASH, path, number))
            for number in (least - 1, most + 1, -most, True, False, None, (most, 1), str(most)):
                self.bad(with_part(MASH, path, number))

    def test_shares(self):
        for share in ((1, 1), (1, 12), (11, 12), (1, 2), (7, 11), (5, 12)):
            self.good(with_part(MASH, (3,), share))
            self.bad(with_part(MASH, (3,), list(share)))
        for share in (
            (0, 1), (0, 5), (-1, 2), (2, 1), (13, 12), (3, 2), (1, 13), (12, 13), (2, 4), (12, 12), (2, 12), (1, 0), (1, -2),
            (-1, -2), (1,), (1, 2, 3), (True, 1), (1, True), 1, 0, None, "1/2", (), ("1", "2"), ((1, 2), 1),
        ):
            self.bad(with_part(MASH, (3,), share))

    def test_one_to_six_malts_and_parts_each_once(self):
        for many in range(8):
            malts = tuple((malt, 7, 30) for malt in MALTS[:many])
            parts = [(running, 7) for running in RUNNINGS[:many]]
            (self.good if 1 <= many <= 6 else self.bad)(with_part(MASH, (2,), malts))
            (self.good if 1 <= many <= 6 else self.bad)(with_part(MIX, (2,), parts))
        self.bad(with_part(MASH, (2,), (("pale", 1, 1), ("brown", 1, 1), ("pale", 2, 2))))
        self.bad(with_part(MASH, (2,), (("pale", 1, 1), ("pale", 1, 1))))
        self.bad(with_part(MIX, (2,), (("a", 1), ("b", 1), ("a", 2))))
        self.bad(with_part(MIX, (2,), [("a", 1), ("a", 1)]))
        self.good(with_part(MIX, (2,), [("b", 1), ("a", 1)]))

    def test_sorts_that_are_spilt(self):
        for sort in ("running", "beer", "cask"):
            self.good(("spill", sort, "a", 1))
        for sort in ("mash", "", "runnings", "Beer", "malt", None, 1, True, ("beer",), ["beer"], []):
            self.bad(("spill", sort, "a", 1))

    def test_other_things(self):
        for thing in (None, True, False, 0, 7, "", "mash", "sell", ("sell",), ["sell", "a"], (("sell", "a"),), ((), ()), ([],)):
            self.bad(thing)
        for deep in range(6):
            for thing in nested("sell", deep):
                self.bad(thing)

    def test_one_part_otherwise(self):
        for deed in DEEDS + WIDE_DEEDS[:3] + WIDE_DEEDS[8:9]:
            for thing in changed_ones(deed):
                self.assertIs(self.look(is_deed, thing), is_deed_plainly(thing), repr(thing))

    def test_anything_by_chance(self):
        rolls = dice("is deed")
        for _ in range(2000):
            for thing in deep_things(rolls, random_deed(rolls)) + [any_thing(rolls, 4)]:
                self.assertIs(self.look(is_deed, thing), is_deed_plainly(thing), repr(thing))

    def test_deeds_by_chance(self):
        rolls = dice("deeds")
        for _ in range(500):
            self.good(random_deed(rolls))


class NamesInTest(QuestionTest):
    def test_each_form_in_order(self):
        told = [self.ask(names_in, deed) for deed in DEEDS]
        self.assertEqual(told, [
            [("mash", "big")],
            [("mash", "big")],
            [("mash", "big"), ("running", "first")],
            [("running", "first")],
            [("running", "first"), ("mash", "big")],
            [("beer", "ale"), ("running", "first"), ("running", "a")],
            [("beer", "ale"), ("cask", "one")],
            [("beer", "ale")],
            [("cask", "one")],
        ])

    def test_each_sort_that_is_spilt(self):
        for sort in ("running", "beer", "cask"):
            self.assertEqual(self.ask(names_in, ("spill", sort, "one", 3)), [(sort, "one")])

    def test_parts_stay_in_their_order(self):
        deed = ("mix", "mix", [("zz", 1), ("a", 2), ("mix", 3), ("b", 4)])
        told = self.ask(names_in, deed)
        self.assertEqual(told, [("beer", "mix")] + [("running", name) for name in ("zz", "a", "mix", "b")])

    def test_names_like_words_of_deeds(self):
        self.assertEqual(self.ask(names_in, ("draw", "draw", 5, "mash")), [("mash", "draw"), ("running", "mash")])
        self.assertEqual(self.ask(names_in, ("rack", "cask", 5, "beer")), [("beer", "cask"), ("cask", "beer")])

    def test_by_chance(self):
        rolls = dice("names in")
        for _ in range(300):
            deed = random_deed(rolls)
            for sort, name in self.ask(names_in, deed):
                self.assertIn(sort, ("mash", "running", "beer", "cask"))
                self.assertIn(name, str(deed))


if __name__ == "__main__":
    unittest.main()
