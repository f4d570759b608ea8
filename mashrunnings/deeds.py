"""Deeds: tuples whose first word tells what is done, and what stands behind it with what and how much."""

from mashrunnings.fractions import ONE, is_under
from mashrunnings.kinds import is_name, is_number_from, is_pair, is_row
from mashrunnings.worts import is_above_nought

SORTS = ("mash", "running", "beer", "cask")
WORT_SORTS = ("running", "beer", "cask")
# What stands behind the first word: a sort stands for the name of such a thing.
FORMS = {
    "mash": ("mash", "malts", "share", "held"),
    "liquor": ("mash", "gallons"),
    "draw": ("mash", "gallons", "running"),
    "weaker": ("running", "points"),
    "return": ("running", "gallons", "mash"),
    "mix": ("beer", "parts"),
    "rack": ("beer", "gallons", "cask"),
    "spill": ("sort", "name", "gallons"),
    "sell": ("cask",),
}
MOST_GALLONS = 10 ** 4
MOST_POUNDS = 10 ** 4
MOST_POINTS = 10 ** 7
MOST_POINTS_OF_A_POUND = 40
MOST_BELOW = 12
MOST_ROWS = 6


def are_gallons(thing):
    """Whether a thing is a number of gallons that a deed may be about."""
    return is_number_from(thing, 1, MOST_GALLONS)


def are_points(thing):
    """Whether a thing is a number of points with which a running may have come out."""
    return is_number_from(thing, 0, MOST_POINTS)


def is_held(thing):
    """Whether a thing is a number of gallons that grains may hold back."""
    return is_number_from(thing, 0, MOST_GALLONS)


def is_share(thing):
    """Whether a thing is a share that may be solved: above nought, not above 1, by twelfths at the finest."""
    return is_above_nought(thing) and not is_under(ONE, thing) and thing[1] <= MOST_BELOW


def is_malt(thing):
    """Whether a thing is a tuple (malt, pounds, points of a pound)."""
    if not isinstance(thing, tuple) or len(thing) != 3 or not is_name(thing[0]):
        return False
    return is_number_from(thing[1], 1, MOST_POUNDS) and is_number_from(thing[2], 1, MOST_POINTS_OF_A_POUND)


def is_mixed_part(thing):
    """Whether a thing is a pair (running, gallons)."""
    return is_pair(thing) and is_name(thing[0]) and are_gallons(thing[1])


def are_unlike(rows):
    """Whether the rows' first parts, texts, are unlike."""
    return len(set([row[0] for row in rows])) == len(rows)


def has_some_rows(thing):
    """Whether a thing is a list or a tuple of as many rows as malts or parts may have."""
    return is_row(thing) and 1 <= len(thing) <= MOST_ROWS


def are_malts(thing):
    """Whether a thing is the malts of a mash, each once."""
    return has_some_rows(thing) and all(is_malt(row) for row in thing) and are_unlike(thing)


def are_mixed_parts(thing):
    """Whether a thing is the parts of a beer, each running once."""
    return has_some_rows(thing) and all(is_mixed_part(row) for row in thing) and are_unlike(thing)


def is_wort_sort(thing):
    """Whether a thing is the word of a sort of things that have a wort."""
    return thing in WORT_SORTS


CHECKS = {
    "malts": are_malts,
    "share": is_share,
    "held": is_held,
    "gallons": are_gallons,
    "points": are_points,
    "parts": are_mixed_parts,
    "sort": is_wort_sort,
}


def stands_as(word, thing):
    """Whether a thing may stand where a form has this word; where it has no check of its own, a name stands."""
    if word not in CHECKS:
        return is_name(thing)
    check = CHECKS[word]
    return check(thing)


def is_deed(thing):
    """Whether a thing is a deed, as it is told."""
    if not isinstance(thing, tuple) or len(thing) == 0 or not isinstance(thing[0], str):
        return False
    form = FORMS.get(thing[0])
    if form is None or len(thing) != len(form) + 1:
        return False
    return all(stands_as(word, part) for word, part in zip(form, thing[1:]))


def names_in(deed):
    """Pairs (sort, name) of the mashes, runnings, beers and casks in a deed, in their order."""
    kind = deed[0]
    if kind == "mix":
        return [("beer", deed[1])] + [("running", running) for running, gallons in deed[2]]
    if kind == "spill":
        return [(deed[1], deed[2])]
    return [(word, part) for word, part in zip(FORMS[kind], deed[1:]) if word in SORTS]


def own_deed(thing):
    """A copy of a deed, or of a part of it, tuples all through."""
    if is_row(thing):
        return tuple([own_deed(part) for part in thing])
    return thing
