"""Rates, lists of pairs (least, pence): what a gallon pays, by the strength from which on it pays that."""

from mashrunnings.fractions import is_under, rounded_up, times
from mashrunnings.kinds import is_number_from, is_pair, is_row
from mashrunnings.worts import strength_of

MOST_PAIRS = 8
MOST_LEAST = 200
MOST_PENCE = 10 ** 6


def is_rate(thing):
    """Whether a thing is a pair (least, pence), wherever it may stand."""
    return is_pair(thing) and is_number_from(thing[0], 0, MOST_LEAST) and is_number_from(thing[1], 0, MOST_PENCE)


def are_rates(thing):
    """Whether a thing is rates: one to eight pairs, leasts rising from 0."""
    if not is_row(thing) or not 1 <= len(thing) <= MOST_PAIRS:
        return False
    if not all(is_rate(pair) for pair in thing):
        return False
    leasts = [least for least, pence in thing]
    return leasts[0] == 0 and leasts == sorted(set(leasts))


def own_rates(rates):
    """A copy of rates, pairs being tuples."""
    return [(least, pence) for least, pence in rates]


def rate_of(rates, strength):
    """The pence of the last pair whose least isn't above the strength."""
    found = 0
    for least, pence in rates:
        if not is_under(strength, (least, 1)):
            found = pence
    return found


def pence_of(rates, wort):
    """What a wort pays: the rate of its strength for each gallon, rounded up."""
    rate = rate_of(rates, strength_of(wort))
    return rounded_up(times((rate, 1), wort[0]))


def bill_of(prices, duty, worts):
    """(price, duty, left) of all worts together, left being the first less the second."""
    price = sum([pence_of(prices, wort) for wort in worts])
    paid = sum([pence_of(duty, wort) for wort in worts])
    return (price, paid, price - paid)
