"""The account of a book as of an hour: what was done, what was void, and what is left of each thing."""

from mashrunnings.cellars import Cellar
from mashrunnings.doings import done_rows
from mashrunnings.errors import NoThing
from mashrunnings.rates import pence_of
from mashrunnings.voids import void_word


class Account:
    """All entries of a book up to an hour, gone through at once: what is done to the book later is no matter."""

    def __init__(self, book, hour):
        self.hour = hour
        self.price_pairs = book.prices()
        self.duty_pairs = book.duty()
        self.cellar = Cellar()
        self.rows_done = []
        self.rows_void = []
        for at, number, deed in book.entries():
            if at <= hour:
                self.go_through(at, number, deed)

    def go_through(self, at, number, deed):
        """Do the deed of one entry, or note the word by which it is void."""
        word = void_word(self.cellar, deed)
        if word is not None:
            self.rows_void.append((at, number, word))
            return
        for kind, name, gallons, points, whom in done_rows(self.cellar, deed):
            self.rows_done.append((at, number, kind, name, gallons, points, whom))

    def rows(self):
        """(hour, number, kind, name, gallons, points, whom) of all that was done, in order."""
        return list(self.rows_done)

    def voids(self):
        """(hour, number, word) of each deed that couldn't be done, in order."""
        return list(self.rows_void)

    def names(self, sort):
        """The names of all of a sort that there ever were, rising."""
        return self.cellar.names_of(sort)

    def left(self, sort, name):
        """The wort that is left of a running, beer or cask, None where nothing is; refused with NoThing."""
        self.first(sort, name)
        return self.cellar.worts_now[(sort, name)]

    def first(self, sort, name):
        """The wort that a running, beer or cask was at first; refused with NoThing."""
        if (sort, name) not in self.cellar.worts_at_first:
            raise NoThing("there never was one of this name")
        return self.cellar.worts_at_first[(sort, name)]

    def mash_left(self, mash):
        """(gallons, solved, in_grains) of a mash; refused with NoThing."""
        if mash not in self.cellar.mashes:
            raise NoThing("there never was a mash of this name")
        found = self.cellar.mashes[mash]
        return (found.inside(), found.solved(), found.in_grains())

    def sold(self):
        """(cask, price, duty) of each cask sold, in order."""
        return [
            (cask, pence_of(self.price_pairs, wort), pence_of(self.duty_pairs, wort))
            for cask, wort in self.cellar.worts_sold
        ]

    def given(self):
        """(malt, points), rising, that the malts of all mashes had."""
        return list(self.cellar.parts_given)

    def gone(self, kind):
        """(malt, points), rising, that was sold or was spilt."""
        return list(self.cellar.parts_sold() if kind == "sold" else self.cellar.parts_spilt)

    def last_hour(self):
        """The hour up to which the account goes."""
        return self.hour
