"""Texts of books: rows of prices, of duties and of entries, written and read."""

from mashrunnings.book import Book
from mashrunnings.fractions import fraction_text
from mashrunnings.readings import MOST_ENTRIES, entry_in, read_rows


def deed_words(deed):
    """The words of a deed."""
    if deed[0] == "mash":
        kind, mash, malts, share, held = deed
        return [kind, mash, fraction_text(share), str(held)] + [str(part) for row in malts for part in row]
    if deed[0] == "mix":
        kind, beer, parts = deed
        return [kind, beer] + [str(part) for row in parts for part in row]
    return [str(part) for part in deed]


def rate_rows(word, rates):
    """The rows of rates, this word ahead."""
    return [f"{word} {least} {pence}" for least, pence in rates]


def book_text(book):
    """The text of a book, its entries by hours."""
    entries = [" ".join([str(hour)] + deed_words(deed)) for hour, number, deed in book.entries()]
    return "\n".join(rate_rows("price", book.prices()) + rate_rows("duty", book.duty()) + entries)


def book_step_in(words, steps):
    """The entry of a row's words; None where it isn't one, or one too many."""
    return entry_in(words) if len(steps) < MOST_ENTRIES else None


def book_of(text):
    """The book of a text, entered in the order of its rows; refused with BadRow."""
    prices, duty, entries = read_rows(text, book_step_in)
    book = Book(prices, duty)
    for hour, deed in entries:
        book.enter(hour, deed)
    return book
