"""What a running that came out weaker changes: the fewest beers that must be mixed otherwise, shown by a paper.

The paper has for each list of places that is one shorter, and has all that aren't still good, prices that show that
changing just these doesn't do.
"""

from mashrunnings.blends import is_within
from mashrunnings.fractions import NOUGHT
from mashrunnings.kinds import is_number, is_pair, is_row
from mashrunnings.making import made_of, shows_none
from mashrunnings.mixings import rests_of, strengths_of
from mashrunnings.wishes import are_prices


def made_weaker(runnings, number, points):
    """The runnings, the one of this number with just so many points."""
    return [
        (tuple(gallons), tuple(points if at == number else before)) for at, (gallons, before) in enumerate(runnings)
    ]


def still_good(runnings, wishes, mixing):
    """The places of the wishes whose row, as it is, has a strength within the wish."""
    strengths = strengths_of(runnings, mixing)
    return [place for place, wish in enumerate(wishes) if is_within(strengths[place], wish)]


def spoilt_places(runnings, wishes, mixing):
    """The places of the wishes that aren't still good."""
    good = still_good(runnings, wishes, mixing)
    return [place for place in range(len(wishes)) if place not in good]


def rising_lists(first, end, many):
    """All rising lists of so many places from first on, below end, in rising order."""
    if many <= 0:
        return [[]] if many == 0 else []
    return [
        [place, *others] for place in range(first, end) for others in rising_lists(place + 1, end, many - 1)
    ]


def lists_with(spoilt, end, many):
    """All rising lists of so many places below end that have all the spoilt ones, in rising order."""
    return [places for places in rising_lists(0, end, many) if all(place in places for place in spoilt)]


def rests_without(runnings, mixing, places):
    """What is left of the runnings by the rows of the wishes at all other places."""
    return rests_of(runnings, [row for place, row in enumerate(mixing) if place not in places])


def own_mixing(mixing):
    """A mixing's own copy, lists and tuples as they are told."""
    return [[(number, tuple(gallons)) for number, gallons in row] for row in mixing]


def with_rows(mixing, places, rows):
    """A mixing's own copy with these rows at these places."""
    changed = own_mixing(mixing)
    for place, row in zip(places, rows):
        changed[place] = row
    return changed


def fewest_changed(runnings, wishes, mixing, number, points):
    """(places, other, paper): the fewest wishes that are changed, the mixing then, and the paper that shows it.

    ([], the mixing, []) where all are still good, (None, None, prices) where the wishes can't be made at all.
    """
    then = made_weaker(runnings, number, points)
    spoilt = spoilt_places(then, wishes, mixing)
    if len(spoilt) == 0:
        return ([], own_mixing(mixing), [])
    whole, prices = made_of(then, wishes)
    if whole is None:
        return (None, None, list(prices))
    paper = []
    for many in range(len(spoilt), len(wishes)):
        failed = []
        for places in lists_with(spoilt, len(wishes), many):
            rests = rests_without(then, mixing, places)
            rows, prices = made_of(rests, [wishes[place] for place in places])
            if rows is not None:
                return (places, with_rows(mixing, places, rows), paper)
            failed.append((places, list(prices)))
        paper = failed
    return (list(range(len(wishes))), whole, paper)


def are_places(thing, places):
    """Whether a thing is just this list of places."""
    return is_row(thing) and all(is_number(place) for place in thing) and list(thing) == places


def shows_failed(runnings, wishes, mixing, places, thing):
    """Whether a thing is (places, prices), prices that show that changing just these wishes doesn't do."""
    if not is_pair(thing) or not are_places(thing[0], places) or not are_prices(runnings, thing[1]):
        return False
    prices = thing[1]
    rests = rests_without(runnings, mixing, places)
    # A price of what isn't there would show nothing, as nothing can be mixed of it.
    if any(rest[0] == NOUGHT and price != NOUGHT for rest, price in zip(rests, prices)):
        return False
    return shows_none(rests, [wishes[place] for place in places], prices)


def shows_fewest(runnings, wishes, mixing, number, points, many, thing):
    """Whether a thing is a paper that shows that no fewer than so many wishes are changed."""
    then = made_weaker(runnings, number, points)
    lists = lists_with(spoilt_places(then, wishes, mixing), len(wishes), many - 1)
    if not is_row(thing) or len(thing) != len(lists):
        return False
    return all(shows_failed(then, wishes, mixing, places, part) for places, part in zip(lists, thing))
