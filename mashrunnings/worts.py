"""Worts: tuples (gallons, parts), parts telling how many points in it are of which malt.

Handed in a wort may be made of lists, too; told it is made of tuples.
"""

from mashrunnings.errors import TooMuch
from mashrunnings.fractions import NOUGHT, ONE, is_fraction, is_under, less, over, plus, times
from mashrunnings.kinds import is_name, is_pair

MOST_MALTS = 8


def is_above_nought(thing):
    """Whether a thing is a fraction above nought."""
    return is_fraction(thing) and thing[0] > 0


def is_part(thing):
    """Whether a thing is a pair (malt, points), points above nought."""
    return is_pair(thing) and is_name(thing[0]) and is_above_nought(thing[1])


def are_parts(thing):
    """Whether a thing is a tuple of at most 8 parts, malts rising, each once."""
    if not isinstance(thing, tuple) or len(thing) > MOST_MALTS:
        return False
    if not all(is_part(part) for part in thing):
        return False
    malts = [malt for malt, points in thing]
    return malts == sorted(set(malts))


def is_wort(thing):
    """Whether a thing is a wort, as it is told."""
    return is_pair(thing) and is_above_nought(thing[0]) and are_parts(thing[1])


def points_of_parts(parts):
    """All points of pairs (malt, points) together."""
    together = NOUGHT
    for malt, points in parts:
        together = plus(together, points)
    return together


def points_of(wort):
    """All points of a wort together."""
    return points_of_parts(wort[1])


def strength_of(wort):
    """The points of a wort over its gallons."""
    return over(points_of(wort), wort[0])


def summed_parts(parts):
    """Pairs (malt, points) in any order as parts of a wort: malts rising, each once, points above nought."""
    by_malt = {}
    for malt, points in parts:
        by_malt[malt] = plus(by_malt.get(malt, NOUGHT), points)
    return tuple([(malt, by_malt[malt]) for malt in sorted(by_malt) if by_malt[malt] != NOUGHT])


def poured(worts):
    """All of the worts together."""
    together = NOUGHT
    for gallons, parts in worts:
        together = plus(together, gallons)
    return (together, summed_parts([part for gallons, parts in worts for part in parts]))


def shared_parts(parts, share):
    """The like share of every malt's points: none of a share of nought, as points stand above nought."""
    if share == NOUGHT:
        return ()
    return tuple([(malt, times(points, share)) for malt, points in parts])


def parted(wort, gallons):
    """The pair of so many gallons of a wort and the rest, None where nothing is left; refused with TooMuch."""
    whole, parts = wort
    if is_under(whole, gallons):
        raise TooMuch("the wort has fewer gallons")
    share = over(gallons, whole)
    taken = (tuple(gallons), shared_parts(parts, share))
    if share == ONE:
        return (taken, None)
    return (taken, (less(whole, gallons), shared_parts(parts, less(ONE, share))))


def weakened(wort, points):
    """The pair of a wort with just so many points, and the parts that it has less; refused with TooMuch."""
    gallons, parts = wort
    together = points_of(wort)
    if is_under(together, points):
        raise TooMuch("the wort has fewer points")
    # Nought of nought is no share: a wort without points stays as it is.
    share = ONE if together == NOUGHT else over(points, together)
    kept = (tuple(gallons), shared_parts(parts, share))
    return (kept, shared_parts(parts, less(ONE, share)))
