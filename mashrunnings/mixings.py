"""Mixings: for each wish, in order, a list of pairs (number, gallons) of the runnings that it is mixed of."""

from mashrunnings.blends import is_within
from mashrunnings.fractions import NOUGHT, is_under, less, over, plus, times
from mashrunnings.kinds import is_number, is_pair, is_row
from mashrunnings.worts import is_above_nought


def is_portion(thing, many):
    """Whether a thing is a pair (number, gallons), the number one of so many runnings."""
    return is_pair(thing) and is_number(thing[0]) and 0 <= thing[0] < many and is_above_nought(thing[1])


def is_mixed_row(thing, many):
    """Whether a thing is a row of a mixing of so many runnings: numbers rise."""
    if not is_row(thing) or not all(is_portion(portion, many) for portion in thing):
        return False
    numbers = [number for number, gallons in thing]
    return numbers == sorted(set(numbers))


def given_gallons(runnings, mixing):
    """The gallons that each running gives."""
    given = [NOUGHT for running in runnings]
    for row in mixing:
        for number, gallons in row:
            given[number] = plus(given[number], gallons)
    return given


def gives_enough(runnings, mixing):
    """Whether no running gives more than it has."""
    given = given_gallons(runnings, mixing)
    return not any(is_under(running[0], gallons) for running, gallons in zip(runnings, given))


def gallons_mixed(row):
    """The gallons of the beer mixed by a row."""
    together = NOUGHT
    for number, gallons in row:
        together = plus(together, gallons)
    return together


def strength_mixed(runnings, row):
    """The strength of the beer mixed by a row that isn't empty."""
    together = NOUGHT
    for number, gallons in row:
        whole, points = runnings[number]
        together = plus(together, times(points, over(gallons, whole)))
    return over(together, gallons_mixed(row))


def makes_wish(runnings, wish, row):
    """Whether by a row a wish has just its gallons, of a strength within it; an empty row mixes nothing."""
    if len(row) == 0:
        return False
    return gallons_mixed(row) == (wish[1], 1) and is_within(strength_mixed(runnings, row), wish)


def shows_mixing(runnings, wishes, thing):
    """Whether a thing is a mixing by which the runnings make the wishes."""
    if not is_row(thing) or len(thing) != len(wishes):
        return False
    if not all(is_mixed_row(row, len(runnings)) for row in thing):
        return False
    return gives_enough(runnings, thing) and all(
        makes_wish(runnings, wish, row) for wish, row in zip(wishes, thing)
    )


def strengths_of(runnings, mixing):
    """The strengths of the beers mixed so, of a mixing without an empty row."""
    return [strength_mixed(runnings, row) for row in mixing]


def running_shared(running, share):
    """So much of a running: its gallons and points times a share."""
    gallons, points = running
    return (times(gallons, share), times(points, share))


def rests_of(runnings, mixing):
    """What is left of each running, pairs (gallons, points), nought too."""
    rests = []
    for running, gallons in zip(runnings, given_gallons(runnings, mixing)):
        # A running with nothing in it gives nothing, and nothing is no share of it.
        share = (1, 1) if gallons == NOUGHT else over(less(running[0], gallons), running[0])
        rests.append(running_shared(running, share))
    return rests
