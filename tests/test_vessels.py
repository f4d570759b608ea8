"""Tests of vessels by hours: point [10], and points [1] and [2] as far as they reach them."""

import itertools
import unittest

from mashrunnings.vessels import housed, shows_lack, shows_plan, stays_of
from tests.samples import QuestionTest, any_thing, as_lists, changed_ones, deep_things, dice, random_mixing, random_runnings

VESSELS = (("tun", 50), ("vat", 50), ("butt", 20))
STAYS = (("ale", 50, 0, 48), ("mild", 20, 10, 30), ("porter", 40, 30, 60), ("small", 20, 48, 60))
PLAN = [(0, "ale", "tun"), (10, "mild", "vat"), (30, "porter", "vat"), (48, "porter", "tun"), (48, "small", "vat")]


def stand(stays, hour):
    return [stay for stay in stays if stay[2] <= hour < stay[3]]


def can_be_put(vessels, beers):
    """Whether beers can be put into unlike vessels with room for them, looked for one by one."""
    if not beers:
        return True
    for vessel in vessels:
        others = [other for other in vessels if other[0] != vessel[0]]
        if vessel[1] >= beers[0][1] and can_be_put(others, beers[1:]):
            return True
    return False


def order(things):
    return sorted(sorted(things), key=lambda thing: thing[1], reverse=True)


def housed_plainly(vessels, stays):
    """What housed tells, hour by hour."""
    rows, where = [], {}
    for hour in range(max([stay[3] for stay in stays], default=0) + 1):
        beers = order(stand(stays, hour))
        if not can_be_put(vessels, beers):
            rooms = [room for _, room in order(vessels)] + [0] * len(beers)
            return ("lacks", hour, next(beer[1] for beer, room in zip(beers, rooms) if beer[1] > room))
        now = {beer[0]: vessel[0] for beer, vessel in zip(beers, order(vessels))}
        rows += [(hour, beer, vessel) for beer, vessel in sorted(now.items()) if where.get(beer) != vessel]
        where = now
    return ("plan", rows)


def lack_plainly(vessels, stays, thing):
    if type(thing) is not tuple or len(thing) != 2 or [type(part) for part in thing] != [int, int]:
        return False
    hour, gallons = thing
    return sum(stay[1] >= gallons for stay in stand(stays, hour)) > sum(room >= gallons for _, room in vessels)


def plan_plainly(vessels, stays, thing):
    """Whether a thing is a plan, looked at hour by hour."""
    if type(thing) not in (list, tuple):
        return False
    rooms = dict(vessels)
    beers = {stay[0]: stay for stay in stays}
    for row in thing:
        if type(row) is not tuple or len(row) != 3 or [type(part) for part in row] != [int, str, str]:
            return False
        hour, beer, vessel = row
        if beer not in beers or vessel not in rooms or rooms[vessel] < beers[beer][1]:
            return False
        if not beers[beer][2] <= hour < beers[beer][3]:
            return False
    if any(one[0] > other[0] for one, other in zip(thing, thing[1:])):
        return False
    if not all(any(row[0] == stay[2] and row[1] == stay[0] for row in thing) for stay in stays):
        return False
    where = {}
    for hour in sorted({stay[2] for stay in stays} | {stay[3] for stay in stays} | {row[0] for row in thing}):
        for row in thing:
            if row[0] == hour:
                where[row[1]] = row[2]
        taken = [where[stay[0]] for stay in stand(stays, hour)]
        if len(taken) != len(set(taken)):
            return False
    return True


def random_vessels(rolls, many):
    names = rolls.sample(["a", "b", "butt", "cask", "tun", "vat", "vb", "zzzzzzzz"], many)
    return [(name, rolls.choice((1, 5, 9, 9, 20, 10 ** 4))) for name in names]


def random_stays(rolls, many, last):
    names = rolls.sample([one + other for one in "abcd" for other in ("", "b", "z")], many)
    stays = []
    for name in names:
        begin = rolls.randrange(last)
        stays.append((name, rolls.choice((1, 1, 5, 6, 9, 20)), begin, rolls.randint(begin + 1, min(last, begin + last // 3 + 1))))
    return stays


class StaysOfTest(QuestionTest):
    WISHES = [("ale", 6, 50, 50), ("small", 5, 0, 30)]
    MIXING = [[(0, (3, 1)), (2, (3, 1))], [(1, (5, 1))]]

    def test_examples(self):
        told = stays_of([7, 3, 9], self.WISHES, self.MIXING, [2, 1])
        self.assertEqual(repr(told), repr([("ale", 6, 7, 57), ("small", 5, 3, 27)]))
        told = stays_of([9, 10 ** 4, 7], self.WISHES, self.MIXING, [100, 1])
        self.assertEqual(told, [("ale", 6, 7, 2409), ("small", 5, 10 ** 4, 10 ** 4 + 24)])
        self.assertEqual(stays_of([0, 0, 0], self.WISHES, self.MIXING, [1, 1]), [("ale", 6, 0, 24), ("small", 5, 0, 24)])

    def test_many(self):
        rolls = dice(101)
        for at in range(60):
            runnings = random_runnings(rolls, 1 + at % 6, 50)
            mixing = random_mixing(rolls, runnings, 1 + at % 4)
            wishes = [(beer, rolls.randint(1, 99), 0, 200) for beer in ("a", "b", "mild", "porter")[:len(mixing)]]
            hours = [rolls.choice((0, rolls.randint(0, 10 ** 4), 10 ** 4)) for _ in runnings]
            days = [rolls.randint(1, 100) for _ in wishes]
            found = []
            for wish, row, many in zip(wishes, mixing, days):
                own = sorted(hours[number] for number, _ in row)
                found.append((wish[0], wish[1], own[0], own[-1] + 24 * many))
            told = self.ask(stays_of, hours, wishes, mixing, days)
            self.assertEqual(repr(told), repr(found))


class HousedTest(QuestionTest):
    def check(self, vessels, stays):
        told = self.ask(housed, vessels, stays)
        self.assertEqual(repr(told), repr(housed_plainly(vessels, stays)))
        if told[0] == "plan":
            self.assertIs(shows_plan(vessels, stays, told[1]), True)
            self.assertTrue(plan_plainly(vessels, stays, told[1]))
            self.assertFalse(any(lack_plainly(vessels, stays, (stay[2], other[1])) for stay in stays for other in stays))
        else:
            self.assertIs(shows_lack(vessels, stays, told[1:]), True)
            self.assertTrue(lack_plainly(vessels, stays, told[1:]))
        return told

    def test_a_plan(self):
        # The ale goes at 48, and the porter is pumped over into its vessel.
        self.assertEqual(self.check(VESSELS, STAYS), ("plan", PLAN))

    def test_no_stays(self):
        self.assertEqual(self.check(VESSELS, []), ("plan", []))
        self.assertEqual(self.check([], []), ("plan", []))

    def test_no_vessels(self):
        self.assertEqual(self.check([], STAYS), ("lacks", 0, 50))
        self.assertEqual(self.check([], [("ale", 3, 7, 9), ("mild", 4, 5, 6)]), ("lacks", 5, 4))

    def test_one_comes_as_another_one_goes(self):
        self.assertEqual(
            self.check([("tun", 9)], [("ale", 9, 0, 5), ("mild", 9, 5, 7)]), ("plan", [(0, "ale", "tun"), (5, "mild", "tun")])
        )
        self.assertEqual(self.check([("tun", 9)], [("ale", 9, 0, 6), ("mild", 9, 5, 7)]), ("lacks", 5, 9))

    def test_room_of_just_the_gallons_and_a_gallon_less(self):
        self.assertEqual(self.check([("tun", 9)], [("ale", 9, 3, 4)]), ("plan", [(3, "ale", "tun")]))
        self.assertEqual(self.check([("tun", 8)], [("ale", 9, 3, 4)]), ("lacks", 3, 9))

    def test_like_gallons_and_like_rooms_by_names(self):
        vessels = [("vat", 9), ("butt", 9), ("tun", 9)]
        stays = [("mild", 5, 0, 9), ("ale", 5, 0, 9), ("porter", 5, 0, 9)]
        rows = [(0, "ale", "butt"), (0, "mild", "tun"), (0, "porter", "vat")]
        self.assertEqual(self.check(vessels, stays), ("plan", rows))

    def test_the_greatest_is_in_the_roomiest(self):
        vessels, stays = [("a", 5), ("b", 9)], [("x", 3, 0, 9), ("y", 4, 0, 9)]
        self.assertEqual(self.check(vessels, stays), ("plan", [(0, "x", "a"), (0, "y", "b")]))

    def test_beers_are_pumped_over_as_one_comes_and_goes(self):
        vessels, stays = [("a", 9), ("b", 5)], [("x", 3, 0, 9), ("y", 4, 2, 6)]
        rows = [(0, "x", "a"), (2, "x", "b"), (2, "y", "a"), (6, "x", "a")]
        self.assertEqual(self.check(vessels, stays), ("plan", rows))

    def test_the_first_hour_and_the_first_beer_that_lacks(self):
        vessels = [("a", 9), ("b", 5), ("c", 5)]
        stays = [("x", 9, 0, 9), ("y", 6, 4, 6), ("z", 6, 3, 9), ("w", 2, 3, 9)]
        self.assertEqual(self.check(vessels, stays), ("lacks", 3, 6))
        self.assertEqual(self.check(vessels, [("x", 9, 0, 9), ("y", 5, 0, 9), ("z", 4, 0, 9), ("w", 3, 1, 2)]), ("lacks", 1, 3))

    def test_many_against_hour_by_hour(self):
        rolls = dice(102)
        words = []
        for at in range(500):
            vessels = random_vessels(rolls, at % 9)
            stays = random_stays(rolls, rolls.randint(0, min(12, 3 + 2 * (at % 9))), rolls.choice((4, 12, 60)))
            words.append(self.check(vessels, stays)[0])
        self.assertGreater(words.count("plan"), 100)
        self.assertGreater(words.count("lacks"), 100)

    def test_the_most_and_the_last_hours(self):
        rolls = dice(103)
        vessels = [(name, 10 ** 4) for name in "abcdefgh"]
        stays = random_stays(rolls, 12, 2 * 10 ** 4)
        self.check(vessels, stays)
        stays = [(chr(97 + at), 10 ** 4, 2 * 10 ** 4 - 2 + at % 2, 2 * 10 ** 4) for at in range(8)]
        self.check(vessels, stays)
        self.assertEqual(self.check(vessels[1:], stays)[:2], ("lacks", 2 * 10 ** 4 - 1))

    def test_vessels_of_told_stays(self):
        told = housed([("tun", 6)], stays_of([7, 3, 9], StaysOfTest.WISHES, StaysOfTest.MIXING, [2, 1]))
        self.assertEqual(told, ("lacks", 7, 5))


class ShowsLackTest(QuestionTest):
    def check(self, vessels, stays, thing):
        told = self.look(shows_lack, vessels, stays, thing)
        self.assertIs(told, lack_plainly(vessels, stays, thing), repr(thing))
        return told

    def test_examples(self):
        vessels, stays = [("a", 9), ("b", 5)], [("x", 6, 3, 9), ("y", 6, 4, 8)]
        for hour, gallons, right in ((4, 6, True), (7, 6, True), (3, 6, False), (8, 6, False), (4, 5, False), (4, 7, False), (4, 9, False)):
            self.assertIs(self.check(vessels, stays, (hour, gallons)), right, (hour, gallons))
        self.assertIs(self.check([], stays, (3, 6)), True)
        self.assertIs(self.check([], stays, (3, 0)), True)
        self.assertIs(self.check([], stays, (3, -7)), True)
        self.assertIs(self.check([], stays, (2, 6)), False)
        self.assertIs(self.check([], [], (0, 0)), False)

    def test_wrong_things(self):
        for thing in ([4, 6], (4,), (4, 6, 6), (True, 6), (4, True), ("4", 6), (4, "6"), (4, None), ((4, 6),), None, 4, "", (), True):
            self.assertIs(self.check([], [("x", 6, 3, 9), ("y", 6, 0, 8)], thing), False, repr(thing))
        for thing in ((True, 1), (1, True), (False, 0), (1, False)):
            self.assertIs(self.check([], [("x", 6, 0, 9)], thing), False, repr(thing))

    def test_anything_to_six_deep(self):
        rolls = dice(104)
        for _ in range(2000):
            for thing in deep_things(rolls, (4, 6)) + [(any_thing(rolls, 5), any_thing(rolls, 5))]:
                self.check([("a", 3)], [("x", 6, 0, 9), ("y", 6, 4, 8)], thing)

    def test_all_small_pairs(self):
        rolls = dice(105)
        for at in range(60):
            vessels, stays = random_vessels(rolls, at % 9), random_stays(rolls, at % 13, 9)
            for hour, gallons in itertools.product(range(-1, 11), (-1, 0, 1, 2, 5, 6, 7, 9, 10, 20, 21)):
                self.check(vessels, stays, (hour, gallons))

    def test_where_there_is_a_plan_nothing_lacks(self):
        for hour, gallons in itertools.product(range(61), range(52)):
            self.assertIs(shows_lack(VESSELS, STAYS, (hour, gallons)), False)


class ShowsPlanTest(QuestionTest):
    def check(self, thing, vessels=VESSELS, stays=STAYS):
        told = self.look(shows_plan, vessels, stays, thing)
        self.assertIs(told, plan_plainly(vessels, stays, thing), repr(thing))
        return told

    def right(self, thing, vessels=VESSELS, stays=STAYS):
        self.assertIs(self.check(thing, vessels, stays), True, repr(thing))

    def wrong(self, thing, vessels=VESSELS, stays=STAYS):
        self.assertIs(self.check(thing, vessels, stays), False, repr(thing))

    def test_lists_and_tuples(self):
        self.right(PLAN)
        self.right(tuple(PLAN))
        self.wrong(as_lists(PLAN))
        self.wrong([list(PLAN[0])] + PLAN[1:])

    def test_plans_other_than_the_told_one(self):
        self.right([(0, "ale", "vat"), (10, "mild", "butt"), (30, "porter", "tun"), (48, "small", "butt")])
        self.right([(0, "ale", "vat"), (1, "ale", "tun"), (10, "mild", "butt"), (30, "porter", "vat"), (48, "small", "butt")])

    def test_of_two_rows_of_one_hour_the_later_one_counts(self):
        vessels, stays = [("a", 9), ("b", 9)], [("x", 3, 0, 9), ("y", 3, 0, 9)]
        self.right([(0, "x", "a"), (0, "y", "a"), (0, "y", "b")], vessels, stays)
        self.wrong([(0, "x", "a"), (0, "y", "b"), (0, "y", "a")], vessels, stays)
        self.right([(0, "x", "a"), (0, "y", "a"), (0, "x", "b")], vessels, stays)
        self.right([(0, "x", "a"), (0, "y", "b"), (5, "x", "b"), (5, "y", "a")], vessels, stays)
        self.wrong([(0, "x", "a"), (0, "y", "b"), (5, "x", "b"), (6, "y", "a")], vessels, stays)

    def test_no_rows(self):
        self.wrong([])
        self.right([], VESSELS, [])
        self.right((), [], [])
        self.wrong([(0, "ale", "tun")], VESSELS, [])

    def test_each_beer_has_a_row_at_its_begin(self):
        for at in range(len(PLAN)):
            self.check(PLAN[:at] + PLAN[at + 1:])
        self.wrong([(1, "ale", "tun")], VESSELS, STAYS[:1])
        self.right([(0, "ale", "tun")], VESSELS, STAYS[:1])
        self.right([(0, "ale", "tun"), (47, "ale", "vat")], VESSELS, STAYS[:1])

    def test_a_beer_that_does_not_stand_then(self):
        self.wrong([(0, "ale", "tun"), (48, "ale", "vat")], VESSELS, STAYS[:1])
        self.wrong([(-1, "ale", "tun"), (0, "ale", "tun")], VESSELS, STAYS[:1])
        self.wrong([(0, "ale", "tun"), (49, "ale", "vat")], VESSELS, STAYS[:1])

    def test_a_vessel_without_room_or_unknown_or_an_unknown_beer(self):
        self.wrong([(0, "ale", "butt")], VESSELS, STAYS[:1])
        self.wrong([(0, "ale", "cask")], VESSELS, STAYS[:1])
        self.wrong([(0, "ale", "tun"), (0, "stout", "vat")], VESSELS, STAYS[:1])
        self.right([(10, "mild", "butt")], VESSELS, STAYS[1:2])
        self.wrong([(10, "mild", "butt")], (("butt", 19),), STAYS[1:2])

    def test_hours_never_fall(self):
        vessels, stays = [("a", 9), ("b", 9)], [("x", 3, 0, 9), ("y", 3, 2, 9)]
        self.right([(0, "x", "a"), (2, "y", "b")], vessels, stays)
        self.wrong([(2, "y", "b"), (0, "x", "a")], vessels, stays)
        self.wrong([(0, "x", "a"), (2, "y", "b"), (1, "x", "a")], vessels, stays)

    def test_two_beers_in_one_vessel(self):
        self.wrong([(0, "ale", "tun"), (10, "mild", "tun"), (30, "porter", "vat"), (48, "small", "butt")])
        vessels = [("a", 9), ("b", 9)]
        self.right([(0, "x", "a"), (3, "y", "a")], vessels, [("x", 3, 0, 3), ("y", 3, 3, 9)])
        self.wrong([(0, "x", "a"), (3, "y", "a")], vessels, [("x", 3, 0, 4), ("y", 3, 3, 9)])

    def test_ones_changed_at_one_place(self):
        for plan in (PLAN, tuple(PLAN)):
            for thing in changed_ones(plan):
                self.check(thing)
        for at, other in itertools.product(range(len(PLAN)), PLAN):
            self.check(PLAN[:at] + [other] + PLAN[at:])
            self.check(PLAN[:at] + [other] + PLAN[at + 1:])

    def test_anything_to_six_deep(self):
        rolls = dice(106)
        for _ in range(2000):
            for thing in deep_things(rolls, rolls.choice((PLAN, tuple(PLAN)))):
                self.check(thing)
                self.check(thing, VESSELS, [])

    def test_many_plans_with_rows_by_chance(self):
        rolls = dice(107)
        seen = []
        for _ in range(1500):
            vessels, stays = random_vessels(rolls, rolls.randint(2, 8)), random_stays(rolls, rolls.randint(1, 5), 8)
            rows = [(stay[2], stay[0], rolls.choice(vessels)[0]) for stay in stays]
            for _ in range(rolls.randint(0, 2)):
                stay = rolls.choice(stays)
                rows.append((rolls.randrange(stay[2], stay[3]), stay[0], rolls.choice(vessels)[0]))
            rows.sort(key=lambda row: row[0])
            seen.append(self.check(rows, vessels, stays))
        self.assertGreater(seen.count(True), 50)


if __name__ == "__main__":
    unittest.main()
