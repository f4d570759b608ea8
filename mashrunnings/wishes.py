"""Wishes, tuples (beer, gallons, least, most), and what they cost mixed of runnings, pairs (gallons, points).

prices are a fraction from nought on for each running, the price of a gallon of it.
"""

from mashrunnings.blends import blends_of
from mashrunnings.fractions import NOUGHT, common_below, is_fraction, is_under, made, plus, times
from mashrunnings.kinds import is_name, is_number, is_row
from mashrunnings.worts import points_of

MOST_GALLONS = 10 ** 4
MOST_STRENGTH = 200


def is_wish(thing):
    """Whether a thing is a wish, as it is told."""
    if not isinstance(thing, tuple) or len(thing) != 4:
        return False
    beer, gallons, least, most = thing
    if not is_name(beer) or not all(is_number(part) for part in (gallons, least, most)):
        return False
    return 1 <= gallons <= MOST_GALLONS and 0 <= least <= most <= MOST_STRENGTH


def running_of(wort):
    """The running of a wort: its gallons, and all its points together."""
    return (tuple(wort[0]), points_of(wort))


def reaches(runnings, wish):
    """Whether some of the runnings, mixed as one likes, have a strength within the wish."""
    return len(blends_of(runnings, wish)) > 0


def are_prices(runnings, thing):
    """Whether a thing is prices: a list or a tuple of a fraction from nought on for each running."""
    if not is_row(thing) or len(thing) != len(runnings):
        return False
    return all(is_fraction(price) and price[0] >= 0 for price in thing)


def cost_of(runnings, wish, prices):
    """The least price of a gallon within the wish, mixed as one likes; None where there is none."""
    below = common_below(prices)
    tops = [price[0] * (below // price[1]) for price in prices]
    least = None
    for blend in blends_of(runnings, wish):
        worth = sum([gallons * tops[number] for number, gallons in blend])
        whole = sum([gallons for number, gallons in blend])
        # Not in lowest terms, as only the least one is told.
        if least is None or is_under((worth, whole), least):
            least = (worth, whole)
    if least is None:
        return None
    return made(least[0], least[1] * below)


def cost_of_all(runnings, wishes, prices):
    """What all wishes cost, each by its gallons; None where one of them has no cost."""
    together = NOUGHT
    for wish in wishes:
        cost = cost_of(runnings, wish, prices)
        if cost is None:
            return None
        together = plus(together, times((wish[1], 1), cost))
    return together


def worth_of(runnings, prices):
    """The price of all runnings together."""
    together = NOUGHT
    for (gallons, points), price in zip(runnings, prices):
        together = plus(together, times(gallons, price))
    return together
