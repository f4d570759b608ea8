"""Tests of texts of books: point [16], and point [2] as far as it reaches them."""

import unittest

from mashrunnings.accounts import Account
from mashrunnings.book import Book
from mashrunnings.errors import BadRow
from mashrunnings.texts import book_of, book_text
from tests.brews import DEEDS, DUTY, PRICES, WIDE_DEEDS, book_with, random_deed, random_hour, random_rates
from tests.rows import entry_plainly, one_row_otherwise, one_sign_otherwise, one_word_otherwise, read_plainly
from tests.samples import as_lists, dice

HEAD = "price 0 3\nprice 20 9\nprice 60 30\nduty 0 0\nduty 35 12"
ROWS = (
    "mash big 2/3 12 pale 100 30 brown 20 25", "liquor big 60", "draw big 40 first", "weaker first 900",
    "return first 5 big", "mix ale first 20 a 3", "rack ale 9 one", "spill beer ale 2", "sell one",
)
WHOLE = HEAD + "".join(f"\n{hour} {row}" for hour, row in enumerate(ROWS))
SHORT = "price 0 1\nduty 0 0"


def state(book):
    return repr((book.prices(), book.duty(), book.entries(), book.times()))


class TextsTest(unittest.TestCase):
    def refuse(self, text, row):
        with self.assertRaises(BadRow) as caught:
            book_of(text)
        self.assertIs(type(caught.exception), BadRow)
        self.assertEqual(caught.exception.row, row, repr(text))
        self.assertIs(type(caught.exception.row), int)

    def take(self, text, expected):
        """The book of a text is one into which these (prices, duty, entries) were entered in order."""
        book = book_of(text)
        prices, duty, entries = expected
        self.assertIs(type(book), Book)
        self.assertEqual(state(book), state(book_with(*entries, prices=prices, duty=duty)), repr(text))
        return book

    def read(self, text):
        """The text is taken or refused just as it is when read plainly."""
        expected = read_plainly(text)
        if isinstance(expected, int):
            self.refuse(text, expected)
        else:
            self.take(text, expected)

    def row(self, row):
        """An entry's row, in a text where an entry may stand, is taken or refused as when read plainly."""
        self.read(f"{SHORT}\n{row}\n7 sell one")

    def good_row(self, row):
        self.assertIsNotNone(entry_plainly(row), row)
        self.row(row)

    def bad_row(self, row):
        self.refuse(f"{SHORT}\n{row}\n7 sell one", 2)
        self.refuse(f"{SHORT}\n\n1 sell one\n{row}", 4)


class BookTextTest(TextsTest):
    def test_each_deed(self):
        book = book_with(*enumerate(DEEDS))
        self.assertEqual(book_text(book), WHOLE)
        self.assertEqual(book_text(book_with()), HEAD)

    def test_deeds_handed_in_as_lists(self):
        self.assertEqual(book_text(book_with(*[(hour, as_lists(deed)) for hour, deed in enumerate(DEEDS)])), WHOLE)

    def test_rows_by_hours_and_of_one_hour_by_numbers(self):
        book = book_with((5, DEEDS[8]), (10 ** 4, DEEDS[1]), (5, DEEDS[6]), (0, DEEDS[3]))
        self.assertEqual(book_text(book), HEAD + "\n0 weaker first 900\n5 sell one\n5 rack ale 9 one\n10000 liquor big 60")

    def test_struck_ones_have_no_row(self):
        book = book_with((1, DEEDS[1]), (2, DEEDS[8]))
        book.strike(0)
        self.assertEqual(book_text(book), HEAD + "\n2 sell one")

    def test_a_share_of_one(self):
        book = book_with((3, WIDE_DEEDS[1]), prices=[(0, 10 ** 6)], duty=[(0, 0), (200, 7)])
        self.assertEqual(book_text(book), "price 0 1000000\nduty 0 0\nduty 200 7\n3 mash z 1 0 z 1 1")

    def test_the_book_is_not_changed(self):
        book = book_with(*enumerate(DEEDS))
        before = state(book)
        self.assertEqual(book_text(book), book_text(book))
        self.assertEqual(state(book), before)


class BookOfTest(TextsTest):
    def test_each_deed(self):
        self.take(WHOLE, (PRICES, DUTY, list(enumerate(DEEDS))))
        self.assertEqual(book_text(book_of(WHOLE)), WHOLE)

    def test_read_again_the_same(self):
        rolls = dice("read again")
        for _ in range(40):
            told = [(random_hour(rolls), random_deed(rolls)) for _ in range(rolls.randint(0, 60))]
            book = book_with(*told, prices=random_rates(rolls), duty=random_rates(rolls))
            text = book_text(book)
            again = book_of(text)
            self.assertEqual(book_text(again), text)
            self.assertEqual([row[::2] for row in again.entries()], [row[::2] for row in book.entries()])
            self.assertEqual((again.prices(), again.duty()), (book.prices(), book.duty()))
            self.assertEqual([number for _, number, _ in again.entries()], list(range(len(told))))
            rows = [row[2:] for row in Account(book, 10 ** 4).rows()]
            self.assertEqual([row[2:] for row in Account(again, 10 ** 4).rows()], rows)

    def test_the_widest_deeds(self):
        for deed in WIDE_DEEDS:
            text = book_text(book_with((10 ** 4, deed)))
            self.take(text, (PRICES, DUTY, [(10 ** 4, deed)]))

    def test_hours_in_any_order_numbered_as_they_stand(self):
        book = book_of(SHORT + "\n9 sell a\n3 sell b\n9 sell c\n0 sell d")
        self.assertEqual(book.entries(), [(0, 3, ("sell", "d")), (3, 1, ("sell", "b")), (9, 0, ("sell", "a")), (9, 2, ("sell", "c"))])
        self.assertEqual(book.times(), 4)
        book.undo()
        self.assertEqual(book.enter(1, ("sell", "e")), 3)

    def test_empty_rows_are_passed_over(self):
        for text in ("\n" + WHOLE, WHOLE + "\n", WHOLE.replace("\n", "\n\n\n"), "\n\n\n" + WHOLE + "\n\n"):
            self.take(text, (PRICES, DUTY, list(enumerate(DEEDS))))

    def test_no_entries(self):
        self.take(SHORT, ([(0, 1)], [(0, 0)], []))

    def test_books_of_one_text_stay_apart(self):
        one, other = book_of(WHOLE), book_of(WHOLE)
        one.strike(0)
        self.assertEqual(book_text(other), WHOLE)

    def test_four_hundred_rows(self):
        text = WHOLE + "\n" * 386
        self.assertEqual(len(text.split("\n")), 400)
        self.take(text, (PRICES, DUTY, list(enumerate(DEEDS))))
        self.refuse(text[:-1] + "x", 398)
        self.refuse(text + "x", 399)
        self.refuse("\n" * 399 + "x", 399)


class BadRowTest(TextsTest):
    def test_no_price_or_no_duty(self):
        self.refuse("", 1)
        self.refuse("\n", 2)
        self.refuse("\n" * 399, 400)
        self.refuse("price 0 1", 1)
        self.refuse("price 0 1\n", 2)
        self.refuse("\nprice 0 1\n\nprice 5 1\n", 5)

    def test_a_duty_ahead_of_any_price(self):
        self.refuse("duty 0 1", 0)
        self.refuse("\nduty 0 1\nprice 0 1", 1)

    def test_a_price_behind_a_duty(self):
        self.refuse("price 0 1\nduty 0 1\nprice 5 1", 2)
        self.refuse("price 0 1\nduty 0 1\n\nduty 3 3\nprice 5 1\n1 sell a", 4)

    def test_either_one_behind_an_entry(self):
        self.refuse(SHORT + "\n1 sell a\nprice 5 1", 3)
        self.refuse(SHORT + "\n1 sell a\nduty 5 1", 3)

    def test_an_entry_ahead_of_a_duty(self):
        self.refuse("1 sell a\nprice 0 1\nduty 0 1", 0)
        self.refuse("price 0 1\n1 sell a\nduty 0 1", 1)
        self.refuse("price 0 1\n1 sell a", 1)

    def test_leasts(self):
        for word, head, tail in (("price", "", "\nduty 0 1"), ("duty", "price 0 1\n", "")):
            at = head.count("\n")
            for least in ("1", "200", "5"):
                self.refuse(f"{head}{word} {least} 1{tail}", at)
            for leasts in ((0, 0), (0, 5, 5), (0, 5, 4), (0, 5, 0), (0, 201)):
                rows = "\n".join(f"{word} {least} 1" for least in leasts)
                self.refuse(f"{head}{rows}{tail}", at + len(leasts) - 1)
            self.read(f"{head}{word} 0 1\n{word} 200 1{tail}")

    def test_pence(self):
        for word, head, tail in (("price", "", "\nduty 0 1"), ("duty", "price 0 1\n", "")):
            for pence in ("0", "1", "1000000"):
                self.assertIsInstance(read_plainly(f"{head}{word} 0 {pence}{tail}"), tuple)
                self.read(f"{head}{word} 0 {pence}{tail}")
            for pence in ("1000001", "9" * 150, "-1", "00", "01", "1.0", "", "a", "1 1"):
                self.refuse(f"{head}{word} 0 {pence}{tail}", head.count("\n"))

    def test_a_ninth(self):
        for word, head, tail in (("price", "", "\nduty 0 1"), ("duty", "price 0 1\n", "")):
            rows = [f"{word} {least} 1" for least in range(9)]
            self.read(head + "\n".join(rows[:8]) + tail)
            self.assertEqual(len(read_plainly(head + "\n".join(rows[:8]) + tail)), 3)
            self.refuse(head + "\n".join(rows) + tail, head.count("\n") + 8)

    def test_a_sixty_first_entry(self):
        rows = [f"{at} sell one" for at in range(61)]
        book = book_of(SHORT + "\n" + "\n".join(rows[:60]))
        self.assertEqual(len(book.entries()), 60)
        self.refuse(SHORT + "\n" + "\n".join(rows), 62)
        self.refuse(SHORT + "\n" + "\n\n".join(rows), 122)

    def test_how_many_mashes_and_so_on_is_not_looked_at(self):
        names = "abcdefghijklmnopqrstuvwxyz"
        for row in ("1 liquor {} 1", "1 weaker {} 1", "1 spill beer {} 1", "1 sell {}", "1 mash a 1 0 {} 1 1"):
            text = SHORT + "".join("\n" + row.replace("{}", name) for name in names)
            self.assertEqual(len(book_of(text).entries()), 26)

    def test_the_first_bad_row_is_told(self):
        self.refuse("price 0 1\nx\ny", 1)
        self.refuse(SHORT + "\n1 sell one\n1 sell\n1 sel one", 3)

    def test_words_of_each_deed(self):
        for row in ROWS:
            self.good_row("5 " + row)
            self.bad_row(row)
            self.bad_row("5 " + row + " ")
            self.bad_row("5  " + row)
            self.bad_row(" 5 " + row)
            self.bad_row("5 " + row + " a")
            self.bad_row("5 " + row + " 1")
            self.bad_row("5 " + row.replace(" ", "  ", 1))
            self.bad_row("5 " + row.rpartition(" ")[0])
            self.bad_row("5 " + row.split(" ")[0])
            self.bad_row("5 " + row.upper())
            self.bad_row("5\t" + row)
            self.bad_row("5 " + row + "\r")
        for row in ("5", "5 ", " ", "  ", "5 brew a", "5 undo", "undo", "voids 5", "wish a 1 1 1", "right 0 5 sell a", "# sell"):
            self.bad_row(row)

    def test_hours_at_and_beyond_their_bounds(self):
        for hour in ("0", "1", "9999", "10000"):
            self.good_row(f"{hour} sell one")
        for hour in ("10001", "-1", "00", "01", "+1", "1.0", "1_0", "", "a", "1" * 190):
            self.bad_row(f"{hour} sell one")

    def test_numbers_at_and_beyond_their_bounds(self):
        for row, least, most in (
            ("liquor a {}", 1, 10 ** 4), ("draw a {} b", 1, 10 ** 4), ("weaker a {}", 0, 10 ** 7), ("return a {} b", 1, 10 ** 4),
            ("mix a b {}", 1, 10 ** 4), ("mix a b 1 c {}", 1, 10 ** 4), ("rack a {} b", 1, 10 ** 4), ("spill cask a {}", 1, 10 ** 4),
            ("mash a 1 {} b 1 1", 0, 10 ** 4), ("mash a 1 1 b {} 1", 1, 10 ** 4), ("mash a 1 1 b 1 {}", 1, 40),
            ("mash a 1 1 b 1 1 c 1 {}", 1, 40),
        ):
            for number in (least, least + 1, most - 1, most):
                self.good_row("5 " + row.replace("{}", str(number)))
            words = [str(least - 1), str(most + 1), "-0", "-1", "+1", "01", "00", "1.0", "1e1", "0x1", "1_0", "a", "", "1/1"]
            for number in words + ["\u0661", "1\u0661", "\uff11", "\u00b2", "9" * 150]:
                self.bad_row("5 " + row.replace("{}", number))

    def test_names_and_sorts(self):
        for row in ("liquor {} 1", "draw {} 1 a", "draw a 1 {}", "weaker {} 1", "return {} 1 a", "return a 1 {}", "mix {} a 1",
                    "mix a {} 1", "rack {} 1 a", "rack a 1 {}", "spill beer {} 1", "sell {}", "mash {} 1 1 b 1 1", "mash a 1 1 {} 1 1"):
            for name in ("a", "zzzzzzzz", "mash", "sell"):
                self.row("5 " + row.replace("{}", name))
            for name in ("", "abcdefghi", "A", "a1", "1", "a-b", "a;", "\u00e4", "a\u00e4"):
                self.bad_row("5 " + row.replace("{}", name))
        for sort in ("mash", "runnings", "Beer", "", "a", "malt"):
            self.bad_row(f"5 spill {sort} a 1")

    def test_shares(self):
        for share in ("1", "1/2", "11/12", "1/12", "7/11"):
            self.good_row(f"5 mash a {share} 1 b 1 1")
        for share in ("0", "1/13", "2/4", "12/12", "1/1", "2", "3/2", "13/12", "-1/2", "01/2", "1/02", "1/", "/2", "1/0", "1/2/3", "1/-2"):
            self.bad_row(f"5 mash a {share} 1 b 1 1")

    def test_how_many_malts_and_parts(self):
        for many in range(8):
            malts = "".join(f" {name} 1 1" for name in "abcdefg"[:many])
            parts = "".join(f" {name} 1" for name in "abcdefg"[:many])
            for row in ("5 mash a 1/2 3" + malts, "5 mix b" + parts):
                (self.good_row if 1 <= many <= 6 else self.bad_row)(row)
                self.bad_row(row + " h")
        self.bad_row("5 mash a 1/2 3 b 1 1 c 1")
        self.bad_row("5 mash a 1/2 3 b 1 1 b 1 1")
        self.bad_row("5 mix a b 1 b 2")

    def test_one_sign_otherwise_at_any_place(self):
        for text in one_sign_otherwise(WHOLE, dice("signs")):
            self.read(text)

    def test_one_word_otherwise_at_any_place(self):
        for text in one_word_otherwise(WHOLE, dice("words")):
            self.read(text)

    def test_one_row_otherwise_at_any_place(self):
        rows = ("price 0 1", "price 61 1", "duty 36 1", "3 sell a", "x", " ", "undo", "sums 3")
        for text in one_row_otherwise(WHOLE, rows):
            self.read(text)

    def test_many_signs_otherwise(self):
        rolls = dice("many signs")
        for _ in range(1000):
            text = WHOLE
            for _ in range(rolls.randint(1, 5)):
                text = rolls.choice(one_sign_otherwise(text[:40], rolls, 2)) + text[40:]
                text = "\n".join(rolls.sample(text.split("\n"), len(text.split("\n")))) if rolls.random() < 0.1 else text
            self.read(text)


if __name__ == "__main__":
    unittest.main()
