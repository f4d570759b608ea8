"""Whether a deed can be done in a cellar, or the word by which it is void."""

from mashrunnings.deeds import names_in
from mashrunnings.fractions import is_under
from mashrunnings.worts import points_of

# Which one of the names in a deed is that of a new thing.
NEW_PLACES = {"mash": 0, "draw": 1, "mix": 0, "rack": 1}


def takings_of(deed):
    """Triples (sort, name, gallons) of what a deed takes out of runnings, beers or casks, but for selling."""
    kind = deed[0]
    if kind == "return":
        return [("running", deed[1], deed[2])]
    if kind == "mix":
        return [("running", running, gallons) for running, gallons in deed[2]]
    if kind == "rack":
        return [("beer", deed[1], deed[2])]
    if kind == "spill":
        return [(deed[1], deed[2], deed[3])]
    return []


def is_too_much(cellar, deed):
    """Whether a deed, of things that are there, wants more than is in them."""
    kind = deed[0]
    if kind == "draw":
        return is_under(cellar.mashes[deed[1]].most_drawn(), (deed[2], 1))
    if kind == "weaker":
        return not is_under((deed[2], 1), points_of(cellar.worts_now[("running", deed[1])]))
    if kind == "sell":
        return cellar.worts_now[("cask", deed[1])] is None
    return any(
        is_under(cellar.gallons_left(sort, name), (gallons, 1)) for sort, name, gallons in takings_of(deed)
    )


def void_word(cellar, deed):
    """The first word that is due by which a deed is void; None where it can be done."""
    things = names_in(deed)
    if deed[0] in NEW_PLACES:
        sort, name = things.pop(NEW_PLACES[deed[0]])
        if cellar.was_there(sort, name):
            return "taken"
    if not all(cellar.was_there(sort, name) for sort, name in things):
        return "none"
    # A cask that isn't new by a deed is spilt or sold by it.
    if any(sort == "cask" and cellar.is_sold(name) for sort, name in things):
        return "sold"
    if deed[0] == "weaker" and not cellar.is_untouched(deed[1]):
        return "used"
    if is_too_much(cellar, deed):
        return "much"
    return None
