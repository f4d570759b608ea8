"""Traced back: of which runnings and malts beers and casks are, and where all that the malts gave is."""

from mashrunnings.fractions import NOUGHT, over, times
from mashrunnings.worts import summed_parts


def beer_runnings(account, beer):
    """(running, gallons), rising, of which a beer was mixed."""
    return sorted([
        (running, (gallons, 1))
        for hour, number, kind, running, gallons, points, whom in account.rows()
        if kind == "mixed" and whom == beer
    ])


def beer_of(account, cask):
    """The beer of which a cask was filled."""
    return [row[3] for row in account.rows() if row[2] == "racked" and row[6] == cask][0]


def runnings_in(account, sort, name):
    """(running, gallons), rising, of which a beer was mixed, or a cask by shares of its beer; refused with NoThing."""
    gallons, parts = account.first(sort, name)
    if sort == "beer":
        return beer_runnings(account, name)
    beer = beer_of(account, name)
    share = over(gallons, account.first("beer", beer)[0])
    return [(running, times(mixed, share)) for running, mixed in beer_runnings(account, beer)]


def malts_in(account, sort, name):
    """(malt, points), rising, in a running, beer or cask at first; refused with NoThing."""
    return list(account.first(sort, name)[1])


def casks_of(account, running):
    """(cask, gallons), rising, of all casks in which some of a running was at first; refused with NoThing."""
    account.first("running", running)
    found = []
    for cask in account.names("cask"):
        found.extend([(cask, gallons) for name, gallons in runnings_in(account, "cask", cask) if name == running])
    return found


def mash_of(account, running):
    """The mash out of which a running came; refused with NoThing."""
    account.first("running", running)
    return [row[6] for row in account.rows() if row[2] == "drawn" and row[3] == running][0]


def parts_in_mashes(account):
    """What is solved or in the grains of all mashes."""
    parts = []
    for mash in account.names("mash"):
        gallons, solved, in_grains = account.mash_left(mash)
        parts.extend(solved + in_grains)
    return summed_parts(parts)


def parts_left(account, sort):
    """What is left in all runnings, beers or casks."""
    worts = [account.left(sort, name) for name in account.names(sort)]
    return summed_parts([part for wort in worts if wort is not None for part in wort[1]])


def sums_of(account):
    """(malt, given, mashes, runnings, beers, casks, sold, spilt), malts rising: the first is the others together."""
    columns = [
        dict(parts)
        for parts in (
            account.given(),
            parts_in_mashes(account),
            parts_left(account, "running"),
            parts_left(account, "beer"),
            parts_left(account, "cask"),
            account.gone("sold"),
            account.gone("spilt"),
        )
    ]
    return [tuple([malt] + [column.get(malt, NOUGHT) for column in columns]) for malt in sorted(columns[0])]


def traced_cask(account, cask):
    """All that makes a cask unlike another one: its wort at first and its runnings; None where there is none."""
    if cask not in account.names("cask"):
        return None
    return (account.first("cask", cask), runnings_in(account, "cask", cask))


def unlike_casks(one, other):
    """The casks, rising, that are in just one of two accounts, or are unlike by their wort or runnings at first."""
    casks = sorted(set(one.names("cask")) | set(other.names("cask")))
    return [cask for cask in casks if traced_cask(one, cask) != traced_cask(other, cask)]
