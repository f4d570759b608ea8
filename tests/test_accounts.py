"""Tests of the account: point [14], and points [1] and [2] as far as they reach it."""

import unittest

from mashrunnings.accounts import Account
from mashrunnings.book import Book
from mashrunnings.errors import NoThing
from mashrunnings.mashes import Mash
from mashrunnings.worts import is_wort, parted, poured, weakened
from tests.brews import DUTY, NAMES, PRICES, WIDE_DEEDS, book_with, random_deed, random_hour, random_rates
from tests.ledger import PlainAccount, fitting_deed, full_brew, parts_told, random_brew
from tests.samples import as_lists, as_mixture, dice, is_told_plainly, lists_in, pair_of, shared_lists

SORTS = ("mash", "running", "beer", "cask")
MALTS = (("pale", 10, 30), ("brown", 4, 25))
MASH = ("mash", "big", MALTS, (1, 2), 4)
WATER = ("liquor", "big", 20)
FIRST = ("draw", "big", 10, "first")
# Behind these 100 points are in first, as many in the mash's water, 200 in its grains.
DRAWN = ((1, MASH), (2, WATER), (3, FIRST))
FIRST_WORT = ((10, 1), (("brown", (25, 1)), ("pale", (75, 1))))
ALE = ("mix", "ale", (("first", 8),))
# Behind these 4 gallons of ale are left, and 2 of first.
RACKED = DRAWN + ((4, ALE), (5, ("rack", "ale", 4, "one")))


def account_of(*told, hour=10 ** 4, **rates):
    return Account(book_with(*told, **rates), hour)


def all_told(account):
    """All that an account tells."""
    told = [account.rows(), account.voids(), account.sold(), account.given(), account.gone("sold"), account.gone("spilt")]
    told.append(account.last_hour())
    for sort in SORTS:
        told.append(account.names(sort))
        for name in account.names(sort):
            if sort == "mash":
                told.append(account.mash_left(name))
            else:
                told.append((account.left(sort, name), account.first(sort, name)))
    return told


class AccountTest(unittest.TestCase):
    def refuse(self, account, method, *things):
        with self.assertRaises(NoThing) as caught:
            getattr(account, method)(*things)
        self.assertIs(type(caught.exception), NoThing)

    def match(self, account, plain, hour):
        """All that is told is what a plain account has, twice."""
        for _ in range(2):
            self.assertEqual(repr(account.rows()), repr(plain.rows))
            self.assertEqual(repr(account.voids()), repr(plain.voids))
            self.assertEqual(repr(account.sold()), repr(plain.sold))
            self.assertEqual(repr(account.given()), repr(parts_told(plain.given)))
            for kind in ("sold", "spilt"):
                self.assertEqual(repr(account.gone(kind)), repr(parts_told(plain.gone[kind])))
            self.assertEqual(account.last_hour(), hour)
            for sort in SORTS:
                self.assertEqual(account.names(sort), plain.names(sort))
                for name in NAMES[sort]:
                    self.match_thing(account, plain, sort, name)

    def match_thing(self, account, plain, sort, name):
        if sort == "mash" and name not in plain.mashes:
            self.refuse(account, "mash_left", name)
        elif sort == "mash":
            mash = plain.mashes[name]
            expected = (pair_of(mash.inside), parts_told(mash.solved), parts_told(mash.grains))
            self.assertEqual(repr(account.mash_left(name)), repr(expected))
        elif name not in plain.things[sort]:
            self.refuse(account, "left", sort, name)
            self.refuse(account, "first", sort, name)
        else:
            self.assertEqual(repr(account.left(sort, name)), repr(plain.left(sort, name)))
            self.assertEqual(repr(account.first(sort, name)), repr(plain.first(sort, name)))

    def void(self, *told, word, hour=9):
        """The last one of these is void by this word and changes nothing, alone of all."""
        *ahead, last = told
        before = all_told(account_of(*ahead))
        account = account_of(*ahead, (hour, last))
        self.assertEqual(account.voids(), [(hour, len(ahead), word)])
        after = all_told(account)
        self.assertEqual(after[:1] + after[2:], before[:1] + before[2:])

    def done(self, *told, hour=9):
        """All of these can be done; tells the rows of the last one, its hour and number left out."""
        *ahead, last = told
        account = account_of(*ahead, (hour, last))
        self.assertEqual(account.voids(), [])
        return [row[2:] for row in account.rows() if row[:2] == (hour, len(ahead))]


class RowsTest(AccountTest):
    def test_an_empty_book(self):
        for hour in (0, 5, 10 ** 4):
            account = Account(Book(PRICES, DUTY), hour)
            self.assertEqual(all_told(account), [[], [], [], [], [], [], hour, [], [], [], []])

    def test_each_kind(self):
        told = RACKED + (
            (6, ("return", "first", 1, "big")), (7, ("spill", "beer", "ale", 2)), (8, ("sell", "one")),
        )
        self.assertEqual(account_of(*told).rows(), [
            (1, 0, "mashed", "big", 0, (400, 1), ""),
            (2, 1, "liquor", "big", 20, (0, 1), ""),
            (3, 2, "drawn", "first", 10, (100, 1), "big"),
            (4, 3, "mixed", "first", 8, (80, 1), "ale"),
            (5, 4, "racked", "ale", 4, (40, 1), "one"),
            (6, 5, "returned", "first", 1, (10, 1), "big"),
            (7, 6, "spilt", "ale", 2, (20, 1), "beer"),
            (8, 7, "sold", "one", 4, (40, 1), ""),
        ])

    def test_weaker(self):
        self.assertEqual(self.done(*DRAWN, ("weaker", "first", 60)), [("weaker", "first", 10, (40, 1), "big")])

    def test_a_row_for_each_part_in_order(self):
        told = DRAWN + ((4, ("draw", "big", 5, "a")),)
        rows = self.done(*told, ("mix", "ale", [("first", 3), ("a", 5)]))
        self.assertEqual(rows, [("mixed", "first", 3, (30, 1), "ale"), ("mixed", "a", 5, (50, 1), "ale")])

    def test_each_sort_that_is_spilt(self):
        for sort, name in (("running", "first"), ("beer", "ale"), ("cask", "one")):
            self.assertEqual(self.done(*RACKED, ("spill", sort, name, 2)), [("spilt", name, 2, (20, 1), sort)])

    def test_a_cask_spilt_in_part_is_sold_with_the_rest(self):
        told = RACKED + ((6, ("spill", "cask", "one", 3)),)
        self.assertEqual(self.done(*told, ("sell", "one")), [("sold", "one", 1, (10, 1), "")])

    def test_points_are_fractions(self):
        self.assertEqual(self.done(*DRAWN[:2], ("draw", "big", 3, "a")), [("drawn", "a", 3, (30, 1), "big")])
        rows = self.done((1, ("mash", "a", (("pale", 1, 1),), (1, 7), 0)), (2, ("liquor", "a", 3)), ("draw", "a", 1, "b"))
        self.assertEqual(rows, [("drawn", "b", 1, (1, 21), "a")])

    def test_a_running_of_water_alone(self):
        told = ((1, ("mash", "a", (("pale", 1, 1),), (1, 1), 0)), (2, ("liquor", "a", 1)), (3, ("draw", "a", 1, "b")),
                (4, ("liquor", "a", 3)), (5, ("draw", "a", 3, "c")), (6, ("mix", "d", (("c", 3),))))
        account = account_of(*told)
        self.assertEqual(account.rows()[-2:], [(5, 4, "drawn", "c", 3, (0, 1), "a"), (6, 5, "mixed", "c", 3, (0, 1), "d")])
        self.assertEqual(account.left("beer", "d"), ((3, 1), ()))

    def test_by_hours_and_of_one_hour_by_numbers(self):
        book = book_with((3, FIRST), (2, WATER), (1, MASH), (3, ("draw", "big", 2, "a")), (3, ALE))
        self.assertEqual([row[:4] for row in Account(book, 9).rows()], [
            (1, 2, "mashed", "big"), (2, 1, "liquor", "big"), (3, 0, "drawn", "first"), (3, 3, "drawn", "a"),
            (3, 4, "mixed", "first"),
        ])

    def test_of_one_hour_a_lesser_number_goes_ahead(self):
        self.assertEqual(account_of((1, WATER), (1, MASH)).voids(), [(1, 0, "none")])
        self.assertEqual(account_of((1, MASH), (1, WATER)).voids(), [])

    def test_up_to_the_hour(self):
        for hour in range(7):
            account = account_of(*RACKED, hour=hour)
            self.assertEqual(len(account.rows()), min(hour, 5))
            self.assertEqual(account.last_hour(), hour)
        self.assertEqual(account_of((10 ** 4, MASH)).names("mash"), ["big"])
        self.assertEqual(account_of((0, MASH), hour=0).names("mash"), ["big"])
        self.assertEqual(account_of((1, MASH), hour=0).names("mash"), [])

    def test_put_right_struck_and_undone_entries(self):
        book = book_with(*RACKED)
        book.put_right(3, 4, ("mix", "ale", (("first", 6),)))
        self.assertEqual(Account(book, 9).left("beer", "ale"), ((2, 1), (("brown", (5, 1)), ("pale", (15, 1)))))
        book.strike(1)
        self.assertEqual(Account(book, 9).voids(), [(3, 2, "much"), (4, 3, "none"), (5, 4, "none")])
        book.undo()
        book.undo()
        self.assertEqual(all_told(Account(book, 9)), all_told(account_of(*RACKED, hour=9)))


class VoidsTest(AccountTest):
    def test_mash(self):
        self.void((1, MASH), ("mash", "big", (("rye", 1, 1),), (1, 1), 0), word="taken")

    def test_liquor(self):
        self.void(("liquor", "big", 1), word="none")
        self.void((1, MASH), ("liquor", "small", 1), word="none")

    def test_draw(self):
        self.void(*DRAWN, ("draw", "big", 1, "first"), word="taken")
        self.void(*DRAWN, ("draw", "none", 1, "first"), word="taken")
        self.void(*DRAWN, ("draw", "big", 7, "first"), word="taken")
        self.void(*DRAWN, ("draw", "none", 1, "a"), word="none")
        self.void(*DRAWN, ("draw", "none", 10 ** 4, "a"), word="none")
        self.void(*DRAWN, ("draw", "big", 7, "a"), word="much")
        self.void((1, MASH), ("draw", "big", 1, "a"), word="much")
        self.void((1, MASH), (2, ("liquor", "big", 4)), ("draw", "big", 1, "a"), word="much")
        self.assertEqual(self.done(*DRAWN, ("draw", "big", 6, "a")), [("drawn", "a", 6, (60, 1), "big")])

    def test_weaker(self):
        self.void(("weaker", "first", 0), word="none")
        self.void(*DRAWN, ("weaker", "big", 0), word="none")
        self.void(*DRAWN, ("weaker", "first", 100), word="much")
        self.void(*DRAWN, ("weaker", "first", 10 ** 7), word="much")
        for use in (ALE, ("return", "first", 1, "big"), ("spill", "running", "first", 1), ("spill", "running", "first", 10)):
            self.void(*DRAWN, (4, use), ("weaker", "first", 5), word="used")
            self.void(*DRAWN, (4, use), ("weaker", "first", 10 ** 6), word="used")
        self.assertEqual(len(self.done(*DRAWN, ("weaker", "first", 99))), 1)
        self.assertEqual(len(self.done(*DRAWN, ("weaker", "first", 0))), 1)

    def test_weaker_with_points_that_are_no_whole_number(self):
        told = ((1, ("mash", "a", (("pale", 1, 10),), (1, 3), 0)), (2, ("liquor", "a", 1)), (3, ("draw", "a", 1, "b")))
        self.assertEqual(self.done(*told, ("weaker", "b", 3)), [("weaker", "b", 1, (1, 3), "a")])
        self.void(*told, ("weaker", "b", 4), word="much")

    def test_weaker_of_water(self):
        told = ((1, ("mash", "a", (("pale", 1, 1),), (1, 1), 0)), (2, ("liquor", "a", 1)), (3, ("draw", "a", 1, "b")),
                (4, ("liquor", "a", 3)), (5, ("draw", "a", 3, "c")))
        self.void(*told, ("weaker", "c", 0), word="much")

    def test_what_was_void_is_no_use(self):
        told = DRAWN + ((4, ("mix", "ale", (("first", 2), ("none", 1)))), (4, ("return", "first", 11, "big")))
        account = account_of(*told, (5, ("weaker", "first", 1)))
        self.assertEqual(account.voids(), [(4, 3, "none"), (4, 4, "much")])
        self.assertEqual(account.rows()[-1][2:4], ("weaker", "first"))

    def test_return(self):
        self.void(*DRAWN, ("return", "none", 1, "big"), word="none")
        self.void(*DRAWN, ("return", "first", 1, "none"), word="none")
        self.void(*DRAWN, ("return", "first", 11, "none"), word="none")
        self.void(*DRAWN, ("return", "big", 11, "first"), word="none")
        self.void(*DRAWN, ("return", "first", 11, "big"), word="much")
        self.void(*DRAWN, (4, ALE), ("return", "first", 3, "big"), word="much")
        self.void(*DRAWN, (4, ("spill", "running", "first", 10)), ("return", "first", 1, "big"), word="much")

    def test_mix(self):
        told = DRAWN + ((3, ("draw", "big", 6, "a")), (4, ALE))
        self.void(*told, ("mix", "ale", (("a", 1),)), word="taken")
        self.void(*told, ("mix", "ale", (("none", 1),)), word="taken")
        self.void(*told, ("mix", "ale", (("a", 99),)), word="taken")
        self.void(*told, ("mix", "b", (("none", 1),)), word="none")
        self.void(*told, ("mix", "b", (("a", 1), ("none", 1))), word="none")
        self.void(*told, ("mix", "b", (("a", 99), ("none", 1))), word="none")
        self.void(*told, ("mix", "b", (("first", 3),)), word="much")
        self.void(*told, ("mix", "b", (("a", 1), ("first", 3))), word="much")
        self.void(*told, ("mix", "b", (("first", 3), ("a", 1))), word="much")
        self.assertEqual(len(self.done(*told, ("mix", "b", (("first", 2), ("a", 6))))), 2)

    def test_rack(self):
        self.void(*RACKED, ("rack", "ale", 1, "one"), word="taken")
        self.void(*RACKED, ("rack", "none", 1, "one"), word="taken")
        self.void(*RACKED, ("rack", "ale", 99, "one"), word="taken")
        self.void(*RACKED, ("rack", "none", 1, "two"), word="none")
        self.void(*RACKED, ("rack", "first", 1, "two"), word="none")
        self.void(*RACKED, ("rack", "ale", 5, "two"), word="much")
        self.void(*RACKED, (6, ("rack", "ale", 4, "two")), ("rack", "ale", 1, "three"), word="much")
        self.assertEqual(len(self.done(*RACKED, ("rack", "ale", 4, "two"))), 1)

    def test_spill(self):
        for sort, name, most in (("running", "first", 2), ("beer", "ale", 4), ("cask", "one", 4)):
            self.void(*RACKED, ("spill", sort, "none", 1), word="none")
            self.void(*RACKED, ("spill", sort, "none", 10 ** 4), word="none")
            self.void(*RACKED, ("spill", sort, "big", 1), word="none")
            self.void(*RACKED, ("spill", sort, name, most + 1), word="much")
            self.assertEqual(len(self.done(*RACKED, ("spill", sort, name, most))), 1)
            self.void(*RACKED, (6, ("spill", sort, name, most)), ("spill", sort, name, 1), word="much")
        sold = RACKED + ((6, ("sell", "one")),)
        self.void(*sold, ("spill", "cask", "one", 1), word="sold")
        self.void(*sold, ("spill", "cask", "one", 99), word="sold")

    def test_only_a_cask_is_sold(self):
        told = RACKED + ((6, ("rack", "ale", 1, "ale")), (7, ("sell", "ale")), (8, ("mix", "one", (("first", 1),))))
        told += ((8, ("sell", "one")),)
        self.assertEqual(len(self.done(*told, ("spill", "beer", "ale", 3))), 1)
        self.assertEqual(len(self.done(*told, ("spill", "beer", "one", 1))), 1)

    def test_sell(self):
        self.void(*RACKED, ("sell", "two"), word="none")
        self.void(*RACKED, ("sell", "ale"), word="none")
        self.void(*RACKED, (6, ("sell", "one")), ("sell", "one"), word="sold")
        self.void(*RACKED, (6, ("spill", "cask", "one", 4)), ("sell", "one"), word="much")

    def test_a_void_deed_makes_no_thing(self):
        told = DRAWN + ((4, ("draw", "big", 7, "a")), (4, ("mix", "ale", (("a", 1),))), (4, ("rack", "ale", 1, "one")))
        account = account_of(*told)
        self.assertEqual(account.voids(), [(4, 3, "much"), (4, 4, "none"), (4, 5, "none")])
        self.assertEqual([account.names(sort) for sort in SORTS], [["big"], ["first"], [], []])
        account = account_of(*told, (5, ("draw", "big", 6, "a")), (5, ALE), (6, ("rack", "ale", 1, "one")))
        self.assertEqual(len(account.voids()), 3)
        self.assertEqual([account.names(sort) for sort in SORTS], [["big"], ["a", "first"], ["ale"], ["one"]])

    def test_names_that_are_alike_in_unlike_sorts(self):
        told = ((1, ("mash", "one", MALTS, (1, 2), 4)), (2, ("liquor", "one", 20)), (3, ("draw", "one", 10, "one")),
                (4, ("mix", "one", (("one", 8),))), (5, ("rack", "one", 4, "one")))
        account = account_of(*told, (6, ("spill", "beer", "one", 1)))
        self.assertEqual(account.voids(), [])
        gallons = [account.left(sort, "one")[0] for sort in SORTS[1:]]
        self.assertEqual(gallons, [(2, 1), (3, 1), (4, 1)])
        self.assertEqual(account.mash_left("one")[0], (10, 1))

    def test_a_thing_with_nothing_left_is_there_still(self):
        told = DRAWN + ((4, ("spill", "running", "first", 10)),)
        self.void(*told, FIRST, word="taken")
        self.void(*told, ("mix", "b", (("first", 1),)), word="much")


class ThingsTest(AccountTest):
    def test_left_and_first_of_each_sort(self):
        account = account_of(*RACKED, (6, ("spill", "cask", "one", 1)))
        worts = {
            ("running", "first"): (2, 10), ("beer", "ale"): (4, 8), ("cask", "one"): (3, 4),
        }
        for (sort, name), (left, first) in worts.items():
            self.assertEqual(account.left(sort, name), parted(FIRST_WORT, (left, 1))[0])
            whole = FIRST_WORT if first == 10 else parted(FIRST_WORT, (first, 1))[0]
            self.assertEqual(account.first(sort, name), whole)

    def test_nothing_left(self):
        account = account_of(*RACKED, (6, ("spill", "running", "first", 2)), (6, ("spill", "beer", "ale", 4)), (7, ("sell", "one")))
        for sort, name in (("running", "first"), ("beer", "ale"), ("cask", "one")):
            self.assertIsNone(account.left(sort, name))
            self.assertIs(is_wort(account.first(sort, name)), True)

    def test_no_thing(self):
        account = account_of(*RACKED)
        names = {"mash": "big", "running": "first", "beer": "ale", "cask": "one"}
        for sort in SORTS[1:]:
            for other, name in names.items():
                if other != sort:
                    self.refuse(account, "left", sort, name)
                    self.refuse(account, "first", sort, name)
            for name in ("none", "a", "zzzzzzzz"):
                self.refuse(account, "left", sort, name)
                self.refuse(account, "first", sort, name)
        for name in ("first", "ale", "one", "none"):
            self.refuse(account, "mash_left", name)

    def test_no_thing_ahead_of_its_hour(self):
        book = book_with(*RACKED)
        for sort, name, hour in (("running", "first", 3), ("beer", "ale", 4), ("cask", "one", 5)):
            for method in ("left", "first"):
                self.refuse(Account(book, hour - 1), method, sort, name)
                self.assertIs(is_wort(getattr(Account(book, hour), method)(sort, name)), True)
        self.refuse(Account(book, 0), "mash_left", "big")
        self.assertEqual(Account(book, 1).mash_left("big"), ((0, 1), [], [("brown", (100, 1)), ("pale", (300, 1))]))

    def test_a_refusal_changes_nothing(self):
        account = account_of(*RACKED)
        before = repr(all_told(account))
        self.refuse(account, "left", "cask", "two")
        self.refuse(account, "first", "cask", "two")
        self.refuse(account, "mash_left", "two")
        self.assertEqual(repr(all_told(account)), before)

    def test_names_rise(self):
        told = DRAWN + tuple((4, ("draw", "big", 1, name)) for name in ("z", "b", "aa", "ab"))
        self.assertEqual(account_of(*told).names("running"), ["aa", "ab", "b", "first", "z"])

    def test_mash_left_is_what_its_methods_tell(self):
        mash = Mash(MALTS, (1, 2), 4)
        mash.liquor(20)
        wort = mash.draw((10, 1))
        kept, rest = weakened(wort, (60, 1))
        mash.give_back(rest)
        mash.pour(parted(kept, (3, 1))[0])
        account = account_of(*DRAWN, (4, ("weaker", "first", 60)), (5, ("return", "first", 3, "big")))
        told = account.mash_left("big")
        self.assertEqual(told, (mash.inside(), mash.solved(), mash.in_grains()))
        self.assertEqual([type(part) for part in told], [tuple, list, list])

    def test_a_beer_is_all_its_parts_together(self):
        told = DRAWN + ((4, ("liquor", "big", 10)), (5, ("draw", "big", 5, "a")))
        account = account_of(*told)
        parts = [parted(account.left("running", name), (gallons, 1))[0] for name, gallons in (("a", 2), ("first", 9))]
        beer = account_of(*told, (6, ("mix", "ale", (("first", 9), ("a", 2))))).first("beer", "ale")
        self.assertEqual(beer, poured(parts))


class WeakerTest(AccountTest):
    def test_ahead_of_a_use(self):
        account = account_of(*DRAWN, (4, ("weaker", "first", 60)), (5, ALE))
        self.assertEqual(account.voids(), [])
        self.assertEqual(account.first("running", "first"), ((10, 1), (("brown", (15, 1)), ("pale", (45, 1)))))
        self.assertEqual(account.left("running", "first"), ((2, 1), (("brown", (3, 1)), ("pale", (9, 1)))))
        self.assertEqual(account.left("beer", "ale"), ((8, 1), (("brown", (12, 1)), ("pale", (36, 1)))))
        self.assertEqual(account.mash_left("big")[2], [("brown", (60, 1)), ("pale", (180, 1))])

    def test_twice(self):
        account = account_of(*DRAWN, (4, ("weaker", "first", 60)), (5, ("weaker", "first", 60)), (6, ("weaker", "first", 20)))
        self.assertEqual(account.voids(), [(5, 4, "much")])
        self.assertEqual([row[4:6] for row in account.rows()[-2:]], [(10, (40, 1)), (10, (40, 1))])
        self.assertEqual(account.first("running", "first"), ((10, 1), (("brown", (5, 1)), ("pale", (15, 1)))))

    def test_with_nought(self):
        account = account_of(*DRAWN, (4, ("weaker", "first", 0)), (5, ALE))
        self.assertEqual(account.first("running", "first"), ((10, 1), ()))
        self.assertEqual(account.left("beer", "ale"), ((8, 1), ()))
        self.assertEqual(account.mash_left("big")[2], [("brown", (75, 1)), ("pale", (225, 1))])
        self.assertEqual(account_of(*DRAWN, (4, ("weaker", "first", 0)), (5, ("weaker", "first", 0))).voids(), [(5, 4, "much")])

    def test_behind_a_use(self):
        account = account_of(*DRAWN, (4, ALE), (5, ("weaker", "first", 1)))
        self.assertEqual(account.voids(), [(5, 4, "used")])
        self.assertEqual(account.first("running", "first"), FIRST_WORT)

    def test_told_late_ahead_of_a_use(self):
        account = account_of(*DRAWN, (5, ALE), (4, ("weaker", "first", 60)))
        self.assertEqual(account.voids(), [])
        self.assertEqual(account.left("beer", "ale")[1], (("brown", (12, 1)), ("pale", (36, 1))))

    def test_what_goes_back_is_solved_with_the_next_liquor(self):
        account = account_of(*DRAWN, (4, ("weaker", "first", 60)), (5, ("liquor", "big", 2)))
        # 200 were in the grains, 40 went back, half of that is solved; 100 had been.
        self.assertEqual(account.mash_left("big"), (
            (12, 1), [("brown", (55, 1)), ("pale", (165, 1))], [("brown", (30, 1)), ("pale", (90, 1))],
        ))

    def test_back_into_the_mash_out_of_which_it_came(self):
        other = ((1, ("mash", "a", (("rye", 1, 40),), (1, 2), 0)), (2, ("liquor", "a", 1)))
        account = account_of(*DRAWN, *other, (4, ("draw", "a", 1, "b")), (5, ("weaker", "b", 5)))
        self.assertEqual(account.mash_left("a")[2], [("rye", (35, 1))])
        self.assertEqual(account.mash_left("big")[2], [("brown", (50, 1)), ("pale", (150, 1))])


class ReturnTest(AccountTest):
    def test_to_its_own_mash(self):
        account = account_of(*DRAWN, (4, ("return", "first", 4, "big")))
        self.assertEqual(account.left("running", "first")[0], (6, 1))
        self.assertEqual(account.first("running", "first"), FIRST_WORT)
        self.assertEqual(account.mash_left("big"), (
            (14, 1), [("brown", (60, 1)), ("pale", (180, 1))], [("brown", (25, 1)), ("pale", (75, 1))],
        ))

    def test_to_another_one(self):
        other = (2, ("mash", "late", (("rye", 2, 20),), (1, 1), 1))
        account = account_of(*DRAWN, other, (4, ("return", "first", 10, "late")), (5, ("draw", "late", 9, "a")))
        self.assertEqual(account.voids(), [])
        self.assertIsNone(account.left("running", "first"))
        self.assertEqual(account.mash_left("late"), (
            (1, 1), [("brown", (5, 2)), ("pale", (15, 2)), ("rye", (4, 1))], [],
        ))
        self.assertEqual(account.first("running", "a")[1], (("brown", (45, 2)), ("pale", (135, 2)), ("rye", (36, 1))))

    def test_a_mash_filled_more_than_thirty_times(self):
        told = [(1, MASH)] + [(2 + at, ("liquor", "big", 7 + at)) for at in range(30)] + [(40, ("draw", "big", 500, "a"))]
        told += [(41 + at, ("return", "a", 3 + at, "big")) for at in range(20)] + [(99, ("draw", "big", 200, "b"))]
        book = book_with(*told)
        account = Account(book, 99)
        self.assertEqual(account.voids(), [])
        self.match(account, PlainAccount(book.entries(), 99), 99)


class SoldTest(AccountTest):
    def test_by_prices_and_duty(self):
        told = RACKED + ((6, ("rack", "ale", 1, "a")), (7, ("sell", "one")), (8, ("sell", "a")))
        account = account_of(*told, prices=[(0, 3), (10, 5), (11, 7)], duty=[(0, 1), (10, 2)])
        self.assertEqual(account.sold(), [("one", 20, 8), ("a", 5, 2)])
        self.assertEqual(account_of(*told, prices=[(0, 3), (11, 7)]).sold()[0], ("one", 12, 0))

    def test_in_the_order_of_selling(self):
        told = DRAWN + ((4, ALE),) + tuple((5, ("rack", "ale", 1, name)) for name in "dcab")
        told += ((8, ("sell", "a")), (7, ("sell", "d")), (8, ("sell", "b")), (6, ("sell", "c")))
        self.assertEqual([cask for cask, _, _ in account_of(*told).sold()], ["c", "d", "a", "b"])

    def test_what_is_left_of_a_cask_is_sold(self):
        told = RACKED + ((6, ("spill", "cask", "one", 3)), (7, ("sell", "one")), (8, ("sell", "one")))
        account = account_of(*told)
        self.assertEqual(account.sold(), [("one", 3, 0)])
        self.assertEqual(account.gone("sold"), [("brown", (5, 2)), ("pale", (15, 2))])
        self.assertEqual(account.gone("spilt"), [("brown", (15, 2)), ("pale", (45, 2))])
        self.assertIsNone(account.left("cask", "one"))
        self.assertEqual(account.first("cask", "one")[0], (4, 1))

    def test_the_books_rates_as_they_were(self):
        prices = as_lists(PRICES)
        book = Book(prices, DUTY)
        for hour, deed in RACKED + ((6, ("sell", "one")),):
            book.enter(hour, deed)
        account = Account(book, 9)
        prices[0][1] = 99
        book.prices().clear()
        self.assertEqual(account.sold(), [("one", 12, 0)])

    def test_given_is_of_all_mashes(self):
        account = account_of((1, MASH), (2, ("mash", "a", (("rye", 3, 4), ("pale", 1, 1)), (1, 1), 0)), (3, MASH))
        self.assertEqual(account.given(), [("brown", (100, 1)), ("pale", (301, 1)), ("rye", (12, 1))])
        self.assertEqual(account_of((1, MASH), (2, ("mash", "a", (("rye", 3, 4),), (1, 1), 0)), hour=1).given(),
                         [("brown", (100, 1)), ("pale", (300, 1))])

    def test_gone_of_each_sort_together(self):
        told = RACKED + tuple((6, ("spill", sort, name, 1)) for sort, name in (("running", "first"), ("beer", "ale"), ("cask", "one")))
        account = account_of(*told)
        self.assertEqual(account.gone("spilt"), [("brown", (15, 2)), ("pale", (45, 2))])
        self.assertEqual(account.gone("sold"), [])

    def test_water_spilt_has_no_points(self):
        account = account_of(*DRAWN, (4, ("weaker", "first", 0)), (5, ("spill", "running", "first", 3)))
        self.assertEqual(account.gone("spilt"), [])
        self.assertEqual(account.rows()[-1][2:], ("spilt", "first", 3, (0, 1), "running"))


class OwnThingsTest(AccountTest):
    def test_what_is_done_to_the_book_later_is_no_matter(self):
        told = RACKED + ((6, ("sell", "one")), (6, ("sell", "one")))
        expected = repr(all_told(account_of(*told)))
        for asked in (True, False):
            book = book_with(*told)
            account = Account(book, 10 ** 4)
            if asked:
                self.assertEqual(repr(all_told(account)), expected)
            book.put_right(0, 9, MASH)
            book.strike(1)
            book.enter(0, ("mash", "late", MALTS, (1, 1), 0))
            self.assertEqual(repr(all_told(account)), expected)
            for _ in range(10):
                book.undo()
            self.assertEqual(repr(all_told(account)), expected)

    def test_the_book_is_not_changed_by_an_account(self):
        book = book_with(*RACKED)
        before = repr((book.entries(), book.times(), book.prices(), book.duty()))
        all_told(Account(book, 9))
        self.assertEqual(repr((book.entries(), book.times(), book.prices(), book.duty())), before)

    def test_told_lists_are_the_askers_own(self):
        book = book_with(*RACKED, (6, ("sell", "one")), (7, ("spill", "beer", "ale", 1)), (8, WATER), (8, FIRST))
        account, other = Account(book, 9), Account(book, 9)
        words = repr(all_told(account))
        told = [all_told(account), all_told(account), all_told(other)]
        self.assertEqual(shared_lists(told), [])
        for found in lists_in(told):
            found.reverse()
            found.append("spoilt")
        self.assertEqual(repr(all_told(account)), words)
        self.assertEqual(repr(all_told(other)), words)
        self.assertEqual(repr(all_told(Account(book, 9))), words)

    def test_what_is_told_is_tuples_in_lists(self):
        account = account_of(*RACKED, (6, ("sell", "one")), (6, ("sell", "one")), (7, ("spill", "beer", "ale", 1)))
        for told in (account.rows(), account.voids(), account.sold(), account.given(), account.gone("sold"), account.gone("spilt")):
            self.assertIs(type(told), list)
            self.assertNotEqual(told, [])
            for row in told:
                self.assertTrue(is_told_plainly(row), repr(row))

    def test_accounts_of_one_book_stay_apart(self):
        book = book_with(*RACKED)
        early, late = Account(book, 3), Account(book, 9)
        before = repr(all_told(early))
        all_told(late)
        self.assertEqual(repr(all_told(early)), before)
        self.assertEqual(repr(all_told(late)), repr(all_told(account_of(*RACKED, hour=9))))


class ManyEntriesTest(AccountTest):
    def entered(self, rolls, brew, rates):
        """A book of a brew, entered in any order, as lists and tuples."""
        book = Book(*rates)
        for hour, deed in brew:
            book.enter(hour, as_mixture(deed, rolls))
        return book

    def test_against_a_plain_account(self):
        for seed in range(40):
            rolls = dice(f"account {seed}")
            rates = (random_rates(rolls), random_rates(rolls))
            brew = random_brew(rolls, rolls.randint(1, 60), wrong=rolls.choice((0, 0.2, 0.6)))
            if seed % 2:
                rolls.shuffle(brew)
            book = self.entered(rolls, brew, rates)
            for hour in sorted({rolls.randint(0, 40), 39, 10 ** 4}):
                self.match(Account(book, hour), PlainAccount(book.entries(), hour, *rates), hour)

    def test_put_right_struck_and_undone(self):
        for seed in range(15):
            rolls = dice(f"turns {seed}")
            book = self.entered(rolls, random_brew(rolls, 40, most_hour=10 ** 4), (PRICES, DUTY))
            for _ in range(8):
                number = rolls.choice(book.entries())[1]
                turn = rolls.choice(("right", "hour", "strike", "undo"))
                if turn == "right":
                    book.put_right(number, book.entry(number)[0], fitting_deed(rolls, PlainAccount(book.entries(), 10 ** 4)))
                elif turn == "hour":
                    book.put_right(number, random_hour(rolls), book.entry(number)[1])
                elif turn == "strike":
                    book.strike(number)
                else:
                    book.undo()
                self.match(Account(book, 10 ** 4), PlainAccount(book.entries(), 10 ** 4), 10 ** 4)

    def test_all_of_one_hour(self):
        for seed in range(5):
            rolls = dice(f"one hour {seed}")
            book = self.entered(rolls, [(7, deed) for _, deed in random_brew(rolls, 50)], (PRICES, DUTY))
            self.match(Account(book, 7), PlainAccount(book.entries(), 7), 7)
            self.assertEqual(repr(all_told(Account(book, 6))), repr([[], [], [], [], [], [], 6, [], [], [], []]))

    def test_any_deeds(self):
        rolls = dice("any deeds")
        for _ in range(10):
            told = [(random_hour(rolls), random_deed(rolls, 2)) for _ in range(47)] + [(3, deed) for deed in WIDE_DEEDS]
            book = book_with(*told)
            self.match(Account(book, 10 ** 4), PlainAccount(book.entries(), 10 ** 4), 10 ** 4)

    def test_a_full_book(self):
        for seed in range(3):
            rolls = dice(f"full {seed}")
            book = self.entered(rolls, full_brew(rolls), (PRICES, DUTY))
            account = Account(book, 10 ** 4)
            self.assertEqual(account.voids(), [])
            self.assertEqual([len(account.names(sort)) for sort in SORTS], [4, 12, 12, 20])
            self.assertEqual(len(book.entries()), 60)
            self.match(account, PlainAccount(book.entries(), 10 ** 4), 10 ** 4)


if __name__ == "__main__":
    unittest.main()
