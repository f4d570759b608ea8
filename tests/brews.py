"""Deeds, rates and books by chance, and what is_deed and are_rates should tell of them, written plainly."""

import math
from fractions import Fraction

from mashrunnings.book import Book
from tests.samples import is_fraction_plainly, pair_of

MASHES = ("big", "late", "mash", "one")
RUNNINGS = ("a", "b", "c", "d", "e", "f", "first", "g", "last", "one", "second", "zzzzzzzz")
BEERS = ("ale", "b", "c", "d", "e", "f", "mild", "one", "porter", "small", "stout", "zzzzzzzz")
CASKS = tuple("abcdefghijklmnopqrs") + ("one",)
MALTS = ("amber", "black", "brown", "crystal", "mild", "one", "pale", "zzzzzzzz")
NAMES = {"mash": MASHES, "running": RUNNINGS, "beer": BEERS, "cask": CASKS}

PRICES = [(0, 3), (20, 9), (60, 30)]
DUTY = [(0, 0), (35, 12)]

# One deed of each form, in the document's order, and one with as much in it as there may be.
DEEDS = (
    ("mash", "big", (("pale", 100, 30), ("brown", 20, 25)), (2, 3), 12),
    ("liquor", "big", 60),
    ("draw", "big", 40, "first"),
    ("weaker", "first", 900),
    ("return", "first", 5, "big"),
    ("mix", "ale", (("first", 20), ("a", 3))),
    ("rack", "ale", 9, "one"),
    ("spill", "beer", "ale", 2),
    ("sell", "one"),
)
WIDE_DEEDS = (
    ("mash", "abcdefgh", tuple((malt, 10 ** 4, 40) for malt in MALTS[:6]), (11, 12), 10 ** 4),
    ("mash", "z", (("z", 1, 1),), (1, 1), 0),
    ("liquor", "z", 1),
    ("liquor", "z", 10 ** 4),
    ("draw", "one", 10 ** 4, "one"),
    ("weaker", "one", 0),
    ("weaker", "one", 10 ** 7),
    ("return", "one", 1, "one"),
    ("mix", "one", tuple((running, 10 ** 4) for running in RUNNINGS[:6])),
    ("rack", "one", 10 ** 4, "one"),
    ("spill", "running", "one", 1),
    ("spill", "beer", "one", 10 ** 4),
    ("spill", "cask", "abcdefgh", 10 ** 4),
)


def is_number_plainly(thing, least, most):
    return type(thing) is int and least <= thing <= most


def is_name_plainly(thing):
    return type(thing) is str and 1 <= len(thing) <= 8 and set(thing) <= set("abcdefghijklmnopqrstuvwxyz")


def are_rates_plainly(thing):
    """Whether a thing is rates, as point [12] says."""
    if type(thing) not in (list, tuple) or len(thing) not in range(1, 9):
        return False
    before = None
    for pair in thing:
        if type(pair) is not tuple or len(pair) != 2 or not is_number_plainly(pair[1], 0, 10 ** 6):
            return False
        if not is_number_plainly(pair[0], 0 if before is None else before + 1, 0 if before is None else 200):
            return False
        before = pair[0]
    return True


def rows_plainly(thing, long, is_rest):
    """Whether a thing is one to six tuples so long, unlike names ahead, of whose rest is_rest tells."""
    if type(thing) not in (list, tuple) or len(thing) not in range(1, 7):
        return False
    known = []
    for row in thing:
        if type(row) is not tuple or len(row) != long or not is_name_plainly(row[0]) or row[0] in known:
            return False
        if not is_rest(*row[1:]):
            return False
        known.append(row[0])
    return True


def is_share_plainly(thing):
    return is_fraction_plainly(thing) and thing[1] <= 12 and 0 < Fraction(*thing) <= 1


def are_gallons_plainly(thing):
    return is_number_plainly(thing, 1, 10 ** 4)


def is_deed_plainly(thing):
    """Whether a thing is a deed, form by form as point [13] says."""
    if type(thing) is not tuple or not thing or type(thing[0]) is not str:
        return False
    name, gallons = is_name_plainly, are_gallons_plainly
    match thing:
        case ("mash", mash, malts, share, held):
            told = rows_plainly(malts, 3, lambda *rest: gallons(rest[0]) and is_number_plainly(rest[1], 1, 40))
            return name(mash) and told and is_share_plainly(share) and is_number_plainly(held, 0, 10 ** 4)
        case ("liquor", mash, many):
            return name(mash) and gallons(many)
        case ("draw", mash, many, running):
            return name(mash) and gallons(many) and name(running)
        case ("weaker", running, points):
            return name(running) and is_number_plainly(points, 0, 10 ** 7)
        case ("return", running, many, mash):
            return name(running) and gallons(many) and name(mash)
        case ("mix", beer, parts):
            return name(beer) and rows_plainly(parts, 2, gallons)
        case ("rack", beer, many, cask):
            return name(beer) and gallons(many) and name(cask)
        case ("spill", sort, thing_name, many):
            return type(sort) is str and sort in ("running", "beer", "cask") and name(thing_name) and gallons(many)
        case ("sell", cask):
            return name(cask)
    return False


def random_rates(rolls):
    """Rates of one to eight pairs."""
    leasts = [0] + sorted(rolls.sample(range(1, 201), rolls.randint(0, 7)))
    return [(least, rolls.choice((0, 1, rolls.randint(0, 50), 10 ** 6))) for least in leasts]


def random_share(rolls):
    below = rolls.randint(1, 12)
    return pair_of(Fraction(rolls.randint(1, below), below))


def random_gallons(rolls):
    return rolls.choice((1, 2, rolls.randint(1, 9), rolls.randint(1, 60), rolls.randint(1, 10 ** 4)))


def random_deed(rolls, few=99):
    """Any deed, of the first few names of each sort."""
    names = {sort: known[:few] for sort, known in NAMES.items()}
    pick = {sort: rolls.choice(known) for sort, known in names.items()}
    gallons, kind = random_gallons(rolls), rolls.choice([deed[0] for deed in DEEDS])
    if kind == "mash":
        malts = rolls.sample(MALTS, rolls.randint(1, 6))
        rows = tuple((malt, rolls.choice((1, 40, 10 ** 4)), rolls.randint(1, 40)) for malt in malts)
        return ("mash", pick["mash"], rows, random_share(rolls), rolls.choice((0, 0, 3, 10 ** 4)))
    if kind == "mix":
        runnings = rolls.sample(names["running"], rolls.randint(1, min(6, len(names["running"]))))
        return ("mix", pick["beer"], tuple((running, random_gallons(rolls)) for running in runnings))
    if kind == "spill":
        sort = rolls.choice(("running", "beer", "cask"))
        return ("spill", sort, pick[sort], gallons)
    return {
        "liquor": ("liquor", pick["mash"], gallons),
        "draw": ("draw", pick["mash"], gallons, pick["running"]),
        "weaker": ("weaker", pick["running"], rolls.choice((0, rolls.randint(0, 3000), 10 ** 7))),
        "return": ("return", pick["running"], gallons, pick["mash"]),
        "rack": ("rack", pick["beer"], gallons, pick["cask"]),
        "sell": ("sell", pick["cask"]),
    }[kind]


def random_hour(rolls):
    return rolls.choice((0, rolls.randint(0, 9), rolls.randint(0, 10 ** 4), 10 ** 4))


def book_with(*told, prices=PRICES, duty=DUTY):
    """A book into which these pairs (hour, deed) are entered."""
    book = Book(prices, duty)
    for hour, deed in told:
        book.enter(hour, deed)
    return book


def pence_plainly(rates, gallons, points):
    """What a wort pays, of Fractions: its gallons and all its points."""
    rate = [pence for least, pence in rates if least <= points / gallons][-1]
    return math.ceil(rate * gallons)
