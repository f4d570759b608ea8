"""Deeds that can be done, done in a cellar, each told by rows (kind, name, gallons, points, whom)."""

from mashrunnings.fractions import NOUGHT
from mashrunnings.mashes import Mash
from mashrunnings.worts import points_of, points_of_parts, poured, weakened


def row_of(kind, name, wort, whom):
    """The row of a wort that went somewhere; its gallons are a whole number, as those of all deeds are."""
    gallons, below = wort[0]
    return (kind, name, gallons, points_of(wort), whom)


def do_mash(cellar, deed):
    """A new mash, all its points in the grains."""
    word, name, malts, share, held = deed
    mash = Mash(malts, share, held)
    cellar.mashes[name] = mash
    parts = mash.in_grains()
    cellar.give(parts)
    return [("mashed", name, 0, points_of_parts(parts), "")]


def do_liquor(cellar, deed):
    """Water goes into a mash."""
    word, name, gallons = deed
    cellar.mashes[name].liquor(gallons)
    return [("liquor", name, gallons, NOUGHT, "")]


def do_draw(cellar, deed):
    """A new running comes out of a mash."""
    word, name, gallons, running = deed
    wort = cellar.mashes[name].draw((gallons, 1))
    cellar.put("running", running, wort)
    cellar.mash_by_running[running] = name
    return [row_of("drawn", running, wort, name)]


def do_weaker(cellar, deed):
    """A running has fewer points, the rest being in its mash's grains."""
    word, running, points = deed
    wort, rest = weakened(cellar.worts_now[("running", running)], (points, 1))
    cellar.put("running", running, wort)
    name = cellar.mash_by_running[running]
    cellar.mashes[name].give_back(rest)
    return [row_of("weaker", running, (wort[0], rest), name)]


def do_return(cellar, deed):
    """Some of a running goes into a mash."""
    word, running, gallons, name = deed
    wort = cellar.take("running", running, gallons)
    cellar.mashes[name].pour(wort)
    return [row_of("returned", running, wort, name)]


def do_mix(cellar, deed):
    """A new beer is mixed of runnings."""
    word, beer, parts = deed
    worts = [(running, cellar.take("running", running, gallons)) for running, gallons in parts]
    cellar.put("beer", beer, poured([wort for running, wort in worts]))
    return [row_of("mixed", running, wort, beer) for running, wort in worts]


def do_rack(cellar, deed):
    """A new cask is filled with some of a beer."""
    word, beer, gallons, cask = deed
    wort = cellar.take("beer", beer, gallons)
    cellar.put("cask", cask, wort)
    return [row_of("racked", beer, wort, cask)]


def do_spill(cellar, deed):
    """Some of a running, a beer or a cask is lost."""
    word, sort, name, gallons = deed
    wort = cellar.take(sort, name, gallons)
    cellar.spill(wort[1])
    return [row_of("spilt", name, wort, sort)]


def do_sell(cellar, deed):
    """All that is in a cask goes."""
    word, cask = deed
    wort = cellar.worts_now[("cask", cask)]
    cellar.worts_now[("cask", cask)] = None
    cellar.worts_sold.append((cask, wort))
    return [row_of("sold", cask, wort, "")]


DOINGS = {
    "mash": do_mash,
    "liquor": do_liquor,
    "draw": do_draw,
    "weaker": do_weaker,
    "return": do_return,
    "mix": do_mix,
    "rack": do_rack,
    "spill": do_spill,
    "sell": do_sell,
}


def done_rows(cellar, deed):
    """Do a deed that isn't void; tells its rows."""
    doing = DOINGS[deed[0]]
    return doing(cellar, deed)
