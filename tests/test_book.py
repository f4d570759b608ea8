"""Tests of the book: point [13], and point [2] as far as it reaches it."""

import unittest

from mashrunnings.book import Book
from mashrunnings.deeds import is_deed
from mashrunnings.errors import NoEntry
from tests.brews import DEEDS, DUTY, PRICES, WIDE_DEEDS, book_with, random_deed, random_hour, random_rates
from tests.samples import as_lists, as_mixture, dice, is_told_plainly, lists_in, shared_lists

WATER, MORE, DRAWN = ("liquor", "big", 60), ("liquor", "big", 61), ("draw", "big", 40, "first")
NO_NUMBERS = (-1, -2, 7, 99, 10 ** 9, -10 ** 12)


def as_told(thing):
    """The same thing, tuples all through."""
    if isinstance(thing, (list, tuple)):
        return tuple(as_told(part) for part in thing)
    return thing


def state(book):
    """All that a book tells."""
    known = [(number, book.entry(number)) for _, number, _ in book.entries()]
    return repr((book.prices(), book.duty(), book.entries(), book.times(), known))


def history(book):
    """All that a book tells of itself as it was behind each turn."""
    return [state(book.as_entered(many)) for many in range(book.times() + 1)]


class Model:
    """A book kept plainly: all its pages, one behind each turn, and how many numbers were given till then."""

    def __init__(self, prices, duty):
        self.rates = (as_told(prices), as_told(duty))
        self.pages = [({}, 0)]

    def enter(self, hour, deed):
        page, given = self.pages[-1]
        self.pages.append(({**page, given: (hour, as_told(deed))}, given + 1))
        return given

    def put_right(self, number, hour, deed):
        page, given = self.pages[-1]
        if number not in page:
            raise NoEntry("no")
        self.pages.append(({**page, number: (hour, as_told(deed))}, given))

    def strike(self, number):
        page, given = self.pages[-1]
        if number not in page:
            raise NoEntry("no")
        self.pages.append(({own: page[own] for own in page if own != number}, given))

    def undo(self):
        if len(self.pages) == 1:
            raise NoEntry("no")
        self.pages.pop()

    def state(self, many=None):
        page, _ = self.pages[-1 if many is None else many]
        entries = [(hour, number, deed) for number, (hour, deed) in page.items()]
        entries.sort(key=lambda entry: entry[:2])
        known = [(number, page[number]) for _, number, _ in entries]
        times = len(self.pages) - 1 if many is None else many
        return repr((list(self.rates[0]), list(self.rates[1]), entries, times, known))


class BookTest(unittest.TestCase):
    def refuse(self, book, method, *things):
        """It is refused with NoEntry, and nothing is changed by that."""
        before = state(book)
        with self.assertRaises(NoEntry) as caught:
            getattr(book, method)(*things)
        self.assertIs(type(caught.exception), NoEntry)
        self.assertEqual(state(book), before)

    def refuse_number(self, book, number):
        self.refuse(book, "entry", number)
        self.refuse(book, "strike", number)
        self.refuse(book, "put_right", number, 3, WATER)


class EntriesTest(BookTest):
    def test_an_empty_book(self):
        book = Book(PRICES, DUTY)
        self.assertEqual((book.entries(), book.times()), ([], 0))
        for number in (0, 1) + NO_NUMBERS:
            self.refuse_number(book, number)
        self.refuse(book, "undo")

    def test_numbers_come_from_nought_on(self):
        book = Book(PRICES, DUTY)
        self.assertEqual([book.enter(9 - at, DEEDS[at]) for at in range(9)], list(range(9)))
        for at in range(9):
            self.assertEqual(book.entry(at), (9 - at, DEEDS[at]))
        self.assertEqual(book.times(), 9)

    def test_entries_by_hours_and_of_one_hour_by_numbers(self):
        book = book_with((5, WATER), (0, MORE), (5, DRAWN), (10 ** 4, WATER), (3, WATER), (5, ("liquor", "a", 1)))
        told = book.entries()
        self.assertIs(type(told), list)
        self.assertEqual(told, [
            (0, 1, MORE), (3, 4, WATER), (5, 0, WATER), (5, 2, DRAWN), (5, 5, ("liquor", "a", 1)), (10 ** 4, 3, WATER),
        ])

    def test_more_than_ten_of_one_hour(self):
        book = book_with(*[(7, WATER)] * 30)
        self.assertEqual([number for _, number, _ in book.entries()], list(range(30)))

    def test_deeds_are_tuples_all_through(self):
        rolls = dice("tuples")
        for deed in DEEDS + WIDE_DEEDS:
            for handed in (deed, as_lists(deed), as_mixture(deed, rolls)):
                book = Book(PRICES, DUTY)
                book.enter(4, handed)
                book.put_right(book.enter(4, WATER), 5, handed)
                self.assertEqual(book.entries(), [(4, 0, deed), (5, 1, deed)])
                self.assertEqual([book.entry(0), book.entry(1)], [(4, deed), (5, deed)])
                for told in book.entries() + [book.entry(0), book.entry(1)]:
                    self.assertTrue(is_told_plainly(told), repr(told))
                    self.assertIs(is_deed(told[-1]), True)

    def test_nothing_is_told_of_what_only_does(self):
        book = book_with((1, WATER))
        self.assertIsNone(book.put_right(0, 2, MORE))
        self.assertIsNone(book.strike(0))
        self.assertIsNone(book.undo())

    def test_rates_are_told_as_handed_in(self):
        for prices, duty in ((PRICES, DUTY), (as_lists(PRICES), tuple(DUTY)), (as_lists(DUTY), as_lists(DUTY))):
            book = Book(prices, duty)
            self.assertEqual(repr(book.prices()), repr([tuple(pair) for pair in prices]))
            self.assertEqual(repr(book.duty()), repr([tuple(pair) for pair in duty]))


class PutRightTest(BookTest):
    def test_to_another_hour_and_deed(self):
        book = book_with((1, WATER), (2, MORE), (3, DRAWN))
        book.put_right(0, 9, DEEDS[0])
        self.assertEqual(book.entries(), [(2, 1, MORE), (3, 2, DRAWN), (9, 0, DEEDS[0])])
        self.assertEqual(book.entry(0), (9, DEEDS[0]))
        book.put_right(0, 2, WATER)
        self.assertEqual(book.entries(), [(2, 0, WATER), (2, 1, MORE), (3, 2, DRAWN)])
        self.assertEqual(book.times(), 5)

    def test_to_the_same_is_a_turn_too(self):
        book = book_with((1, WATER))
        book.put_right(0, 1, WATER)
        self.assertEqual(book.times(), 2)
        book.undo()
        self.assertEqual((book.entries(), book.times()), ([(1, 0, WATER)], 1))


class StrikeTest(BookTest):
    def test_a_struck_one_is_gone_and_its_number_does_not_come_again(self):
        book = book_with((1, WATER), (2, MORE))
        book.strike(1)
        self.assertEqual(book.entries(), [(1, 0, WATER)])
        self.refuse_number(book, 1)
        self.assertEqual(book.enter(2, DRAWN), 2)
        book.strike(0)
        book.strike(2)
        self.assertEqual(book.entries(), [])
        self.assertEqual(book.enter(2, DRAWN), 3)
        for number in (0, 1, 2, 4) + NO_NUMBERS:
            self.refuse_number(book, number)

    def test_refused_ones_are_not_counted(self):
        book = book_with((1, WATER))
        for number in (1,) + NO_NUMBERS:
            self.refuse_number(book, number)
        self.assertEqual(book.times(), 1)
        self.assertEqual(book.enter(1, MORE), 1)


class UndoTest(BookTest):
    def test_each_of_the_three(self):
        book = book_with((1, WATER))
        book.put_right(0, 5, MORE)
        book.strike(0)
        book.undo()
        self.assertEqual(book.entries(), [(5, 0, MORE)])
        book.undo()
        self.assertEqual(book.entries(), [(1, 0, WATER)])
        book.undo()
        self.assertEqual((book.entries(), book.times()), ([], 0))
        self.refuse(book, "undo")

    def test_an_undone_ones_number_comes_again(self):
        book = book_with((1, WATER), (2, MORE))
        book.undo()
        self.assertEqual(book.enter(3, DRAWN), 1)
        book.strike(1)
        book.undo()
        self.assertEqual(book.entry(1), (3, DRAWN))
        self.assertEqual(book.enter(3, WATER), 2)

    def test_a_struck_ones_number_comes_again_only_where_its_entering_is_undone(self):
        book = book_with((1, WATER))
        book.strike(0)
        self.assertEqual(book.enter(1, MORE), 1)
        book.undo()
        self.assertEqual(book.enter(1, MORE), 1)
        for _ in range(3):
            book.undo()
        self.assertEqual(book.enter(1, MORE), 0)

    def test_put_right_twice_undone_once(self):
        book = book_with((1, WATER))
        book.put_right(0, 2, MORE)
        book.put_right(0, 3, DRAWN)
        book.undo()
        self.assertEqual(book.entry(0), (2, MORE))

    def test_behind_refused_ones(self):
        book = book_with((1, WATER), (2, MORE))
        book.strike(0)
        for number in (0, 2) + NO_NUMBERS:
            self.refuse_number(book, number)
        self.refuse(book, "as_entered", 4)
        book.undo()
        self.assertEqual(book.entries(), [(1, 0, WATER), (2, 1, MORE)])

    def test_to_the_beginning_and_on_again(self):
        book = book_with((1, WATER), (2, MORE))
        for _ in range(2):
            book.undo()
        for _ in range(3):
            self.refuse(book, "undo")
        self.assertEqual(book.enter(7, WATER), 0)
        self.assertEqual(book.entries(), [(7, 0, WATER)])


class AsEnteredTest(BookTest):
    def test_none_some_and_all(self):
        book = book_with((1, WATER), (2, MORE))
        book.strike(0)
        book.put_right(1, 8, DRAWN)
        expected = [[], [(1, 0, WATER)], [(1, 0, WATER), (2, 1, MORE)], [(2, 1, MORE)], [(8, 1, DRAWN)]]
        for many, entries in enumerate(expected):
            early = book.as_entered(many)
            self.assertIs(type(early), Book)
            self.assertIsNot(early, book)
            self.assertEqual((early.entries(), early.times()), (entries, many))
            self.assertEqual((early.prices(), early.duty()), (PRICES, DUTY))
        for many in (5, 6, 10 ** 9):
            self.refuse(book, "as_entered", many)
        self.refuse(Book(PRICES, DUTY), "as_entered", 1)

    def test_undone_turns_are_not_counted(self):
        book = book_with((1, WATER), (2, MORE))
        book.undo()
        book.enter(3, DRAWN)
        self.assertEqual(book.as_entered(2).entries(), [(1, 0, WATER), (3, 1, DRAWN)])
        self.refuse(book, "as_entered", 3)

    def test_turns_can_be_undone_in_it(self):
        book = book_with((1, WATER), (2, MORE))
        book.strike(0)
        book.enter(4, DRAWN)
        early = book.as_entered(3)
        self.assertEqual(early.enter(5, WATER), 2)
        early.undo()
        early.undo()
        self.assertEqual(early.entries(), [(1, 0, WATER), (2, 1, MORE)])
        early.undo()
        early.undo()
        self.refuse(early, "undo")
        self.assertEqual(book.entries(), [(2, 1, MORE), (4, 2, DRAWN)])

    def test_of_an_earlier_book_of_an_earlier_book(self):
        book = book_with((1, WATER), (2, MORE), (3, DRAWN))
        self.assertEqual(book.as_entered(2).as_entered(1).entries(), [(1, 0, WATER)])
        self.refuse(book.as_entered(2), "as_entered", 3)

    def test_twins_and_books_stay_apart(self):
        book = book_with((1, WATER), (2, MORE))
        book.put_right(0, 4, DRAWN)
        twin, early = book.twin_book(), book.as_entered(3)
        before = history(book)
        for other in (twin, early):
            self.assertEqual(history(other), before)
            other.strike(0)
            other.enter(5, WATER)
            self.assertEqual(history(book), before)
            for _ in range(5):
                other.undo()
            self.assertEqual(history(book), before)
        book.undo()
        book.strike(1)
        self.assertEqual((twin.times(), early.times()), (0, 0))
        twin = book.twin_book()
        before = history(twin)
        book.enter(9, WATER)
        book.strike(0)
        self.assertEqual(history(twin), before)
        self.assertIs(type(twin), Book)


class OwnThingsTest(BookTest):
    def test_what_was_handed_in_may_be_changed_later(self):
        prices, duty = as_lists(PRICES), as_lists(DUTY)
        deeds = [as_lists(deed) for deed in DEEDS]
        words = repr((prices, duty, deeds))
        book = Book(prices, duty)
        for deed in deeds:
            book.put_right(book.enter(3, deed), 4, deed)
        book.twin_book()
        self.assertEqual(repr((prices, duty, deeds)), words)
        before = history(book)
        for found in lists_in([prices, duty, deeds]):
            found.clear()
        self.assertEqual(history(book), before)

    def test_one_rates_for_both(self):
        rates = as_lists(PRICES)
        book = Book(rates, rates)
        rates.append([99, 99])
        self.assertEqual((book.prices(), book.duty()), (PRICES, PRICES))

    def test_told_lists_are_the_askers_own(self):
        book = book_with((1, as_lists(DEEDS[0])), (2, MORE))
        before = history(book)
        twin = book.twin_book()
        told = []
        for each in (book, book, twin):
            told.extend([each.entries(), each.prices(), each.duty(), each.entry(0)])
        self.assertEqual(shared_lists(told), [])
        for found in lists_in(told):
            found.reverse()
            found.append(None)
        self.assertEqual(history(book), before)
        self.assertEqual(history(twin), before)

    def test_books_of_one_rates_stay_apart(self):
        one, other = Book(PRICES, DUTY), Book(PRICES, DUTY)
        one.enter(1, WATER)
        self.assertEqual((other.entries(), other.times()), ([], 0))


class ManyTurnsTest(BookTest):
    def turn(self, rolls, book, model):
        """One turn by chance, taken in both."""
        what = rolls.choice(("enter", "enter", "put_right", "strike", "undo", "wrong"))
        things = {"enter": (random_hour(rolls), as_mixture(random_deed(rolls), rolls)), "undo": ()}.get(what)
        if things is None:
            known = list(model.pages[-1][0]) if what != "wrong" else []
            number = rolls.choice(known + list(NO_NUMBERS) + [model.pages[-1][1]])
            what = rolls.choice(("put_right", "strike")) if what == "wrong" else what
            things = (number, random_hour(rolls), as_lists(random_deed(rolls)))[:3 if what == "put_right" else 1]
        try:
            expected = getattr(model, what)(*things)
        except NoEntry:
            self.refuse(book, what, *things)
        else:
            self.assertEqual(getattr(book, what)(*things), expected)
        self.assertEqual(state(book), model.state())

    def test_against_a_plain_model(self):
        for seed in range(25):
            rolls = dice(f"book {seed}")
            prices, duty = random_rates(rolls), random_rates(rolls)
            book, model = Book(as_mixture(prices, rolls), as_mixture(duty, rolls)), Model(prices, duty)
            for _ in range(60):
                self.turn(rolls, book, model)
            self.assertEqual(history(book), [model.state(many) for many in range(len(model.pages))])
            early = book.as_entered(book.times() // 2)
            model.pages = model.pages[:book.times() // 2 + 1]
            for _ in range(10):
                self.turn(rolls, early, model)

    def test_sixty_entries_and_two_hundred_turns(self):
        rolls = dice("sixty")
        book, model = Book(PRICES, DUTY), Model(PRICES, DUTY)
        for at in range(60):
            hour, deed = random_hour(rolls), random_deed(rolls)
            self.assertEqual(book.enter(hour, deed), at)
            model.enter(hour, deed)
        for _ in range(120):
            number, hour, deed = rolls.randrange(60), random_hour(rolls), random_deed(rolls)
            book.put_right(number, hour, deed)
            model.put_right(number, hour, deed)
        for number in rolls.sample(range(60), 20):
            book.strike(number)
            model.strike(number)
        self.assertEqual(book.times(), 200)
        self.assertEqual(history(book), [model.state(many) for many in range(201)])
        for _ in range(200):
            book.undo()
            model.undo()
            self.assertEqual(state(book), model.state())
        self.refuse(book, "undo")


if __name__ == "__main__":
    unittest.main()
