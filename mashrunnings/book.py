"""A book of deeds by hours: told late, put right, struck, undone."""

from mashrunnings.deeds import own_deed
from mashrunnings.errors import NoEntry
from mashrunnings.rates import own_rates


class Book:
    """Entries (hour, deed) by their numbers, and all turns that were taken to come to them.

    A turn is a tuple (number, before, after): what the entry of that number was ahead of it and is behind it, None
    where there was none. So any turn can be undone, and the book be had as it was behind any of them.
    """

    def __init__(self, prices, duty):
        self.price_pairs = own_rates(prices)
        self.duty_pairs = own_rates(duty)
        self.kept = {}
        self.turns = []

    def enter(self, hour, deed):
        """A new entry; tells its number."""
        # Only entering finds nothing ahead of it, so a struck entry's number isn't given again, an undone one's is.
        number = len([before for own, before, after in self.turns if before is None])
        self.take_turn(number, (hour, own_deed(deed)))
        return number

    def put_right(self, number, hour, deed):
        """The entry is this from now on; refused with NoEntry."""
        self.entry(number)
        self.take_turn(number, (hour, own_deed(deed)))

    def strike(self, number):
        """The entry is gone; refused with NoEntry."""
        self.entry(number)
        self.take_turn(number, None)

    def undo(self):
        """The last turn that wasn't undone is undone; refused with NoEntry where there is none."""
        if len(self.turns) == 0:
            raise NoEntry("there is nothing to undo")
        number, before, after = self.turns.pop()
        self.keep(number, before)

    def take_turn(self, number, after):
        """The entry of a number is this, or is gone where that's None, and can be had back."""
        self.turns.append((number, self.kept.get(number), after))
        self.keep(number, after)

    def keep(self, number, found):
        """The entry of a number is this, or is gone where that's None."""
        if found is None:
            del self.kept[number]
        else:
            self.kept[number] = found

    def entry(self, number):
        """(hour, deed) of an entry; refused with NoEntry."""
        found = self.kept.get(number)
        if found is None:
            raise NoEntry("there is no entry of this number")
        return found

    def entries(self):
        """All entries as (hour, number, deed), by hours, of one hour by numbers."""
        return sorted([(hour, number, deed) for number, (hour, deed) in self.kept.items()])

    def times(self):
        """How many turns were taken and not undone."""
        return len(self.turns)

    def as_entered(self, many):
        """A book of its own as this one was behind the first so many turns; refused with NoEntry."""
        if many > len(self.turns):
            raise NoEntry("not so many turns were taken")
        early = Book(self.price_pairs, self.duty_pairs)
        first_turns = self.turns[:many]
        for number, before, after in first_turns:
            early.take_turn(number, after)
        return early

    def twin_book(self):
        """A book of its own as this one is."""
        return self.as_entered(len(self.turns))

    def prices(self):
        """The rates of prices, as handed in."""
        return own_rates(self.price_pairs)

    def duty(self):
        """The rates of duty, as handed in."""
        return own_rates(self.duty_pairs)
