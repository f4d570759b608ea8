"""Tests of what is traced back: points [15] and [1], and point [2] as far as it reaches them."""

import unittest

from mashrunnings.accounts import Account
from mashrunnings.errors import NoThing
from mashrunnings.fractions import is_fraction
from mashrunnings.traces import casks_of, malts_in, mash_of, runnings_in, sums_of, unlike_casks
from tests.brews import NAMES, book_with, random_deed
from tests.ledger import PlainAccount, full_brew, random_brew
from tests.samples import dice, lists_in, shared_lists, worth_of_pair

MALTS = (("pale", 10, 30), ("brown", 4, 25))
# First and b are of strength 10; 8 gallons of the one and 2 of the other go into ale.
BREW = (
    (1, ("mash", "big", MALTS, (1, 2), 4)), (2, ("liquor", "big", 20)), (3, ("draw", "big", 10, "first")),
    (3, ("mash", "late", (("rye", 1, 30),), (1, 1), 0)), (3, ("liquor", "late", 3)), (3, ("draw", "late", 3, "b")),
    (4, ("mix", "ale", (("first", 8), ("b", 2)))), (5, ("rack", "ale", 4, "one")), (6, ("rack", "ale", 5, "a")),
    (7, ("mix", "small", (("first", 2),))), (8, ("rack", "small", 1, "zz")),
)


def account_of(*told, hour=10 ** 4):
    return Account(book_with(*told), hour)


def all_told(account):
    """All that is traced back of an account."""
    told = [sums_of(account), unlike_casks(account, account)]
    for sort in ("beer", "cask"):
        told.extend(runnings_in(account, sort, name) for name in account.names(sort))
    for sort in ("running", "beer", "cask"):
        told.extend(malts_in(account, sort, name) for name in account.names(sort))
    for running in account.names("running"):
        told.extend([casks_of(account, running), mash_of(account, running)])
    return told


class TracesTest(unittest.TestCase):
    def refuse(self, question, *things):
        with self.assertRaises(NoThing) as caught:
            question(*things)
        self.assertIs(type(caught.exception), NoThing)

    def match(self, account, plain):
        """All that is traced back is what a plain account has kept on the way."""
        for sort in ("beer", "cask"):
            for name in NAMES[sort]:
                if name in plain.things[sort]:
                    self.assertEqual(repr(runnings_in(account, sort, name)), repr(plain.runnings_in(sort, name)))
                else:
                    self.refuse(runnings_in, account, sort, name)
        for sort in ("running", "beer", "cask"):
            for name in NAMES[sort]:
                if name in plain.things[sort]:
                    self.assertEqual(repr(malts_in(account, sort, name)), repr(list(plain.first(sort, name)[1])))
                else:
                    self.refuse(malts_in, account, sort, name)
        for name in NAMES["running"]:
            if name in plain.things["running"]:
                self.assertEqual(repr(casks_of(account, name)), repr(plain.casks_of(name)))
                self.assertEqual(mash_of(account, name), plain.things["running"][name].mash)
            else:
                self.refuse(casks_of, account, name)
                self.refuse(mash_of, account, name)
        self.assertEqual(repr(sums_of(account)), repr(plain.sums()))
        self.all_is_there(account)

    def all_is_there(self, account):
        """What the malts gave is in the other columns together, malt by malt, exactly."""
        rows = sums_of(account)
        self.assertEqual([row[:2] for row in rows], account.given())
        for row in rows:
            self.assertEqual(len(row), 8)
            self.assertTrue(all(is_fraction(worth) for worth in row[1:]), row)
            given, *others = [worth_of_pair(worth) for worth in row[1:]]
            self.assertEqual(given, sum(others))
            self.assertGreaterEqual(min(others), 0)


class RunningsInTest(TracesTest):
    def test_of_beers(self):
        account = account_of(*BREW)
        self.assertEqual(runnings_in(account, "beer", "ale"), [("b", (2, 1)), ("first", (8, 1))])
        self.assertEqual(runnings_in(account, "beer", "small"), [("first", (2, 1))])

    def test_of_casks_by_shares_of_their_beer(self):
        account = account_of(*BREW)
        self.assertEqual(runnings_in(account, "cask", "one"), [("b", (4, 5)), ("first", (16, 5))])
        self.assertEqual(runnings_in(account, "cask", "a"), [("b", (1, 1)), ("first", (4, 1))])
        self.assertEqual(runnings_in(account, "cask", "zz"), [("first", (1, 1))])

    def test_at_first_whatever_went_later(self):
        more = ((9, ("spill", "beer", "ale", 1)), (9, ("sell", "one")), (9, ("spill", "cask", "a", 5)), (9, ("spill", "cask", "zz", 1)))
        early, late = account_of(*BREW), account_of(*BREW, *more)
        self.assertEqual(late.voids(), [])
        for sort, names in (("beer", ("ale", "small")), ("cask", ("one", "a", "zz"))):
            for name in names:
                self.assertEqual(runnings_in(early, sort, name), runnings_in(late, sort, name))

    def test_a_cask_racked_behind_a_spill_has_shares_of_the_beer_at_first(self):
        account = account_of(*BREW[:7], (5, ("spill", "beer", "ale", 5)), (6, ("rack", "ale", 5, "one")))
        self.assertEqual(runnings_in(account, "cask", "one"), [("b", (1, 1)), ("first", (4, 1))])

    def test_names_that_are_alike_in_unlike_sorts(self):
        account = account_of(*BREW, (9, ("rack", "small", 1, "ale")), (9, ("draw", "big", 2, "ale")))
        self.assertEqual(runnings_in(account, "cask", "ale"), [("first", (1, 1))])
        self.assertEqual(runnings_in(account, "beer", "ale"), [("b", (2, 1)), ("first", (8, 1))])

    def test_no_thing(self):
        account = account_of(*BREW)
        for sort, name in (("beer", "one"), ("beer", "first"), ("cask", "ale"), ("cask", "none"), ("beer", "none")):
            self.refuse(runnings_in, account, sort, name)
        self.refuse(runnings_in, account_of(*BREW, hour=4), "cask", "one")
        self.refuse(runnings_in, account_of(*BREW, hour=3), "beer", "ale")
        self.refuse(runnings_in, account_of(*BREW, (9, ("rack", "ale", 9, "two"))), "cask", "two")


class MaltsInTest(TracesTest):
    def test_of_each_sort(self):
        account = account_of(*BREW)
        self.assertEqual(malts_in(account, "running", "first"), [("brown", (25, 1)), ("pale", (75, 1))])
        self.assertEqual(malts_in(account, "beer", "ale"), [("brown", (20, 1)), ("pale", (60, 1)), ("rye", (20, 1))])
        self.assertEqual(malts_in(account, "cask", "one"), [("brown", (8, 1)), ("pale", (24, 1)), ("rye", (8, 1))])

    def test_of_a_running_behind_all_weaker_ones(self):
        account = account_of(*BREW[:3], (4, ("weaker", "first", 60)), (5, ("spill", "running", "first", 4)))
        self.assertEqual(malts_in(account, "running", "first"), [("brown", (15, 1)), ("pale", (45, 1))])

    def test_of_water(self):
        account = account_of(*BREW[:3], (4, ("weaker", "first", 0)))
        self.assertEqual(malts_in(account, "running", "first"), [])

    def test_no_thing(self):
        account = account_of(*BREW)
        for sort, name in (("running", "ale"), ("beer", "one"), ("cask", "first"), ("running", "big"), ("cask", "none")):
            self.refuse(malts_in, account, sort, name)
        self.refuse(malts_in, account_of(*BREW, hour=2), "running", "first")


class CasksOfTest(TracesTest):
    def test_rising_by_shares(self):
        account = account_of(*BREW)
        self.assertEqual(casks_of(account, "first"), [("a", (4, 1)), ("one", (16, 5)), ("zz", (1, 1))])
        self.assertEqual(casks_of(account, "b"), [("a", (1, 1)), ("one", (4, 5))])

    def test_none(self):
        self.assertEqual(casks_of(account_of(*BREW, hour=4), "first"), [])
        self.assertEqual(casks_of(account_of(*BREW, (9, ("draw", "big", 1, "c"))), "c"), [])

    def test_no_thing(self):
        for name in ("ale", "one", "none", "big"):
            self.refuse(casks_of, account_of(*BREW), name)
        self.refuse(casks_of, account_of(*BREW, hour=2), "first")


class MashOfTest(TracesTest):
    def test_out_of_which_it_came(self):
        account = account_of(*BREW, (9, ("draw", "big", 1, "late")), (9, ("draw", "none", 1, "c")))
        self.assertEqual([mash_of(account, name) for name in ("first", "b", "late")], ["big", "late", "big"])
        self.refuse(mash_of, account, "c")

    def test_behind_weaker_and_returned(self):
        told = BREW[:6] + ((4, ("weaker", "first", 9)), (5, ("return", "first", 9, "late")), (6, ("return", "b", 3, "big")))
        account = account_of(*told)
        self.assertEqual([mash_of(account, name) for name in ("first", "b")], ["big", "late"])

    def test_no_thing(self):
        for name in ("ale", "one", "none", "big"):
            self.refuse(mash_of, account_of(*BREW), name)
        self.refuse(mash_of, account_of(*BREW, hour=2), "first")


class SumsOfTest(TracesTest):
    def test_each_column(self):
        account = account_of(*BREW, (9, ("sell", "one")), (9, ("spill", "cask", "a", 1)), (9, ("spill", "beer", "small", 1)))
        self.assertEqual(account.voids(), [])
        self.assertEqual(sums_of(account), [
            ("brown", (100, 1), (75, 1), (0, 1), (2, 1), (21, 2), (8, 1), (9, 2)),
            ("pale", (300, 1), (225, 1), (0, 1), (6, 1), (63, 2), (24, 1), (27, 2)),
            ("rye", (30, 1), (0, 1), (10, 1), (2, 1), (8, 1), (8, 1), (2, 1)),
        ])
        self.all_is_there(account)

    def test_of_nothing(self):
        self.assertEqual(sums_of(account_of()), [])
        self.assertEqual(sums_of(account_of((1, ("liquor", "a", 1)))), [])

    def test_at_first_all_is_in_the_mash(self):
        self.assertEqual(sums_of(account_of(*BREW, hour=1)), [
            (malt, (worth, 1), (worth, 1)) + ((0, 1),) * 5 for malt, worth in (("brown", 100), ("pale", 300))
        ])

    def test_behind_each_entry_all_is_there(self):
        for seed in range(4):
            brew = random_brew(dice(f"each entry {seed}"), 60)
            book = book_with(*brew)
            for hour in range(0, 41, 3):
                self.all_is_there(Account(book, hour))


class UnlikeCasksTest(TracesTest):
    def test_of_an_account_and_itself(self):
        account = account_of(*BREW)
        self.assertEqual(unlike_casks(account, account), [])
        self.assertEqual(unlike_casks(account, account_of(*BREW)), [])
        self.assertEqual(unlike_casks(account_of(), account_of()), [])

    def test_of_an_earlier_hour(self):
        late = account_of(*BREW)
        for hour, casks in ((0, ["a", "one", "zz"]), (5, ["a", "zz"]), (6, ["zz"]), (7, ["zz"]), (8, [])):
            early = account_of(*BREW, hour=hour)
            self.assertEqual(unlike_casks(early, late), casks)
            self.assertEqual(unlike_casks(late, early), casks)

    def test_of_a_book_put_right_by_a_gallon(self):
        book = book_with(*BREW)
        before = Account(book, 9)
        for number, deed, casks in (
            (1, ("liquor", "big", 21), ["a", "one", "zz"]), (4, ("liquor", "late", 4), ["a", "one"]),
            (6, ("mix", "ale", (("first", 8), ("b", 1))), ["a", "one"]), (7, ("rack", "ale", 3, "one"), ["one"]),
            (9, ("mix", "small", (("first", 1),)), []), (10, ("rack", "small", 2, "zz"), ["zz"]),
        ):
            book.put_right(number, book.entry(number)[0], deed)
            self.assertEqual(unlike_casks(before, Account(book, 9)), casks)
            self.assertEqual(unlike_casks(Account(book, 9), before), casks)
            book.undo()

    def test_unlike_by_runnings_alone(self):
        told = (
            (1, ("mash", "a", (("pale", 1, 10),), (1, 1), 0)), (2, ("liquor", "a", 10)), (3, ("draw", "a", 5, "c")),
            (3, ("draw", "a", 5, "d")),
        )
        one, other, third = [
            account_of(*told, (4, ("mix", "b", parts)), (5, ("rack", "b", 2, "cask")))
            for parts in ((("c", 4),), (("d", 4),), (("c", 2), ("d", 2)))
        ]
        self.assertEqual(one.first("cask", "cask"), other.first("cask", "cask"))
        for left, right in ((one, other), (one, third), (third, other)):
            self.assertEqual(unlike_casks(left, right), ["cask"])

    def test_parts_in_another_order_are_like(self):
        other = BREW[:6] + ((4, ("mix", "ale", (("b", 2), ("first", 8)))),) + BREW[7:]
        self.assertEqual(unlike_casks(account_of(*BREW), account_of(*other)), [])

    def test_what_went_later_is_no_matter(self):
        more = ((9, ("sell", "one")), (9, ("spill", "cask", "a", 2)))
        self.assertEqual(unlike_casks(account_of(*BREW), account_of(*BREW, *more)), [])


class ManyEntriesTest(TracesTest):
    def test_against_a_plain_account(self):
        for seed in range(30):
            rolls = dice(f"traces {seed}")
            brew = random_brew(rolls, rolls.randint(1, 60), wrong=rolls.choice((0, 0.2, 0.5)))
            if seed % 2:
                rolls.shuffle(brew)
            book = book_with(*brew)
            for hour in (rolls.randint(0, 40), 10 ** 4):
                self.match(Account(book, hour), PlainAccount(book.entries(), hour))

    def test_unlike_casks_of_books_put_right(self):
        for seed in range(20):
            rolls = dice(f"unlike {seed}")
            book = book_with(*random_brew(rolls, 60, wrong=0.1))
            other = book.twin_book()
            number = rolls.randrange(60)
            other.put_right(number, other.entry(number)[0], random_deed(rolls, 3))
            plain = [PlainAccount(each.entries(), 99) for each in (book, other)]
            casks = [name for name in NAMES["cask"] if seen(plain[0], name) != seen(plain[1], name)]
            self.assertEqual(unlike_casks(Account(book, 99), Account(other, 99)), sorted(casks))

    def test_a_full_book(self):
        for seed in range(3):
            book = book_with(*full_brew(dice(f"full {seed}")))
            account = Account(book, 10 ** 4)
            self.assertEqual(len(account.names("cask")), 20)
            self.match(account, PlainAccount(book.entries(), 10 ** 4))

    def test_each_cask_leads_back_by_shares(self):
        for seed in range(6):
            account = Account(book_with(*random_brew(dice(f"shares {seed}"), 60, wrong=0)), 99)
            for cask in account.names("cask"):
                gallons = sum(worth_of_pair(many) for _, many in runnings_in(account, "cask", cask))
                self.assertEqual(gallons, worth_of_pair(account.first("cask", cask)[0]))
                for running, many in runnings_in(account, "cask", cask):
                    self.assertIn((cask, many), casks_of(account, running))
                    self.assertIn(mash_of(account, running), account.names("mash"))


def seen(plain, cask):
    """All that makes a cask of a plain account unlike another one."""
    return (plain.first("cask", cask), plain.runnings_in("cask", cask)) if cask in plain.things["cask"] else None


class OwnThingsTest(TracesTest):
    def test_told_lists_are_the_askers_own(self):
        account = account_of(*BREW)
        words = repr(all_told(account))
        told = [all_told(account), all_told(account)]
        self.assertEqual(shared_lists(told), [])
        for found in lists_in(told):
            found.reverse()
            found.append("spoilt")
        self.assertEqual(repr(all_told(account)), words)

    def test_the_account_is_not_changed(self):
        account = account_of(*BREW, (9, ("sell", "one")))
        before = repr((account.rows(), account.voids(), account.sold(), account.given(), account.mash_left("big")))
        all_told(account)
        self.refuse(casks_of, account, "none")
        self.assertEqual(repr((account.rows(), account.voids(), account.sold(), account.given(), account.mash_left("big"))), before)


if __name__ == "__main__":
    unittest.main()
