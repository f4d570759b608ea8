"""Strengths within a wish, and the blends of which every mix for a wish is made.

A blend is a tuple of pairs (number, gallons) of one running or of two. Its gallons are whole numbers that only tell
how much of the one goes with how much of the other.
"""

from mashrunnings.fractions import common_divisor, over


def is_within(strength, wish):
    """Whether a strength is from the wish's least to its most."""
    beer, gallons, least, most = wish
    top, below = strength
    return least * below <= top <= most * below


def known_strengths(runnings):
    """Pairs (number, strength) of the runnings that something can be mixed of: those with nothing in them have none."""
    return [(number, over(points, gallons)) for number, (gallons, points) in enumerate(runnings) if gallons[0] > 0]


def blend_of_two(weaker, stronger, mark):
    """The blend of strength mark of two pairs (number, strength), the first below it, the second above it."""
    low, (low_top, low_below) = weaker
    high, (high_top, high_below) = stronger
    of_low = (high_top - mark * high_below) * low_below
    of_high = (mark * low_below - low_top) * high_below
    divisor = common_divisor(of_low, of_high)
    return ((low, of_low // divisor), (high, of_high // divisor))


def blends_to(known, mark):
    """All blends of two that have just the strength mark, neither one having it by itself."""
    weaker = [(number, strength) for number, strength in known if strength[0] < mark * strength[1]]
    stronger = [(number, strength) for number, strength in known if strength[0] > mark * strength[1]]
    return [blend_of_two(one, other, mark) for one in weaker for other in stronger]


def blends_of(runnings, wish):
    """The blends within the wish, of which every mix within it can be put together; none where nothing reaches it."""
    beer, gallons, least, most = wish
    known = known_strengths(runnings)
    found = [((number, 1),) for number, strength in known if is_within(strength, wish)]
    found.extend(blends_to(known, least))
    if least != most:
        found.extend(blends_to(known, most))
    return found
