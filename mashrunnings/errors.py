"""What is refused: each kind of refusal stands straight under BrewError."""


class BrewError(ValueError):
    """Any refusal of this package."""


class BadFraction(BrewError):
    """A text that is not how a fraction is written."""


class NoShare(BrewError):
    """A share of nought was asked for."""


class TooMuch(BrewError):
    """More was asked for than there is."""


class NoEntry(BrewError):
    """There is no such entry in the book."""


class NoThing(BrewError):
    """There never was such a thing in the account."""


class BadRow(BrewError):
    """A row of a text that can't stand there; row is its number, from 0."""

    def __init__(self, row):
        self.row = row
