"""An account kept plainly, by Python's own fractions, and books by chance of which much can be done."""

from fractions import Fraction

from tests.brews import MALTS, NAMES, PRICES, DUTY, pence_plainly, random_deed, random_share
from tests.samples import pair_of, wort_of


def together(*many):
    """Points by malts of several dicts, those above nought."""
    sums = {}
    for points in many:
        for malt, worth in points.items():
            sums[malt] = sums.get(malt, 0) + worth
    return {malt: worth for malt, worth in sums.items() if worth}


def shared(points, share):
    return together({malt: worth * share for malt, worth in points.items()})


def parts_told(points):
    """The told list of points by malts."""
    return [(malt, pair_of(points[malt])) for malt in sorted(points)]


class PlainMash:
    def __init__(self, malts, share, held):
        self.share, self.held = Fraction(*share), held
        self.inside, self.solved = Fraction(0), {}
        self.grains = {malt: Fraction(pounds * points) for malt, pounds, points in malts}

    def fill(self, gallons, points):
        self.inside += gallons
        self.solved = together(self.solved, points, shared(self.grains, self.share))
        self.grains = shared(self.grains, 1 - self.share)

    def draw(self, gallons):
        share = Fraction(gallons) / self.inside
        points, self.solved = shared(self.solved, share), shared(self.solved, 1 - share)
        self.inside -= gallons
        return points


class PlainThing:
    """A running, beer or cask: its gallons and points by malts, at first and now, and runnings in it at first."""

    def __init__(self, gallons, points, mash=None, runnings=None):
        self.gallons = self.gallons_first = Fraction(gallons)
        self.points = self.points_first = points
        self.mash, self.runnings, self.is_sold = mash, runnings or {}, False

    def take(self, gallons):
        share = gallons / self.gallons
        taken, self.points = shared(self.points, share), shared(self.points, 1 - share)
        self.gallons -= gallons
        return taken


class PlainAccount:
    """Goes through entries (hour, number, deed) up to an hour; keeps all that an account tells, as it tells it."""

    def __init__(self, entries, hour, prices=PRICES, duty=DUTY):
        self.rates = (prices, duty)
        self.mashes, self.things = {}, {"running": {}, "beer": {}, "cask": {}}
        self.rows, self.voids, self.sold = [], [], []
        self.given, self.gone = {}, {"sold": {}, "spilt": {}}
        for at, number, deed in sorted(entries, key=lambda entry: entry[:2]):
            if at <= hour:
                self.step(at, number, deed)

    def step(self, at, number, deed):
        word = getattr(self, "void_" + deed[0])(*deed[1:])
        if word:
            self.voids.append((at, number, word))
            return
        for kind, name, gallons, points, whom in getattr(self, "do_" + deed[0])(*deed[1:]):
            self.rows.append((at, number, kind, name, gallons, pair_of(sum(points.values())), whom))

    def void_mash(self, name, *rest):
        return "taken" if name in self.mashes else None

    def do_mash(self, name, malts, share, held):
        self.mashes[name] = PlainMash(malts, share, held)
        self.given = together(self.given, self.mashes[name].grains)
        return [("mashed", name, 0, self.mashes[name].grains, "")]

    def void_liquor(self, name, gallons):
        return None if name in self.mashes else "none"

    def do_liquor(self, name, gallons):
        self.mashes[name].fill(gallons, {})
        return [("liquor", name, gallons, {}, "")]

    def void_draw(self, mash, gallons, running):
        if running in self.things["running"]:
            return "taken"
        if mash not in self.mashes:
            return "none"
        found = self.mashes[mash]
        return "much" if gallons > max(0, found.inside - found.held) else None

    def do_draw(self, mash, gallons, running):
        points = self.mashes[mash].draw(gallons)
        self.things["running"][running] = PlainThing(gallons, points, mash=mash)
        return [("drawn", running, gallons, points, mash)]

    def void_weaker(self, running, points):
        if running not in self.things["running"]:
            return "none"
        found = self.things["running"][running]
        if found.gallons != found.gallons_first:
            return "used"
        return "much" if points >= sum(found.points.values()) else None

    def do_weaker(self, running, points):
        found = self.things["running"][running]
        share = Fraction(points) / sum(found.points.values())
        lost = shared(found.points, 1 - share)
        found.points = found.points_first = shared(found.points, share)
        mash = self.mashes[found.mash]
        mash.grains = together(mash.grains, lost)
        return [("weaker", running, int(found.gallons), lost, found.mash)]

    def void_return(self, running, gallons, mash):
        if running not in self.things["running"] or mash not in self.mashes:
            return "none"
        return "much" if gallons > self.things["running"][running].gallons else None

    def do_return(self, running, gallons, mash):
        points = self.things["running"][running].take(gallons)
        self.mashes[mash].fill(gallons, points)
        return [("returned", running, gallons, points, mash)]

    def void_mix(self, beer, parts):
        if beer in self.things["beer"]:
            return "taken"
        if any(running not in self.things["running"] for running, _ in parts):
            return "none"
        return "much" if any(gallons > self.things["running"][running].gallons for running, gallons in parts) else None

    def do_mix(self, beer, parts):
        taken = [(running, gallons, self.things["running"][running].take(gallons)) for running, gallons in parts]
        points = together(*[points for _, _, points in taken])
        gallons = sum(gallons for _, gallons in parts)
        self.things["beer"][beer] = PlainThing(gallons, points, runnings={name: Fraction(many) for name, many in parts})
        return [("mixed", running, gallons, points, beer) for running, gallons, points in taken]

    def void_rack(self, beer, gallons, cask):
        if cask in self.things["cask"]:
            return "taken"
        if beer not in self.things["beer"]:
            return "none"
        return "much" if gallons > self.things["beer"][beer].gallons else None

    def do_rack(self, beer, gallons, cask):
        found = self.things["beer"][beer]
        share = gallons / found.gallons_first
        points = found.take(gallons)
        runnings = {name: many * share for name, many in found.runnings.items()}
        self.things["cask"][cask] = PlainThing(gallons, points, runnings=runnings)
        return [("racked", beer, gallons, points, cask)]

    def void_spill(self, sort, name, gallons):
        if name not in self.things[sort]:
            return "none"
        found = self.things[sort][name]
        if found.is_sold:
            return "sold"
        return "much" if gallons > found.gallons else None

    def do_spill(self, sort, name, gallons):
        points = self.things[sort][name].take(gallons)
        self.gone["spilt"] = together(self.gone["spilt"], points)
        return [("spilt", name, gallons, points, sort)]

    def void_sell(self, cask):
        if cask not in self.things["cask"]:
            return "none"
        found = self.things["cask"][cask]
        return "sold" if found.is_sold else None if found.gallons else "much"

    def do_sell(self, cask):
        found = self.things["cask"][cask]
        gallons, points = found.gallons, found.points
        self.sold.append((cask, *[pence_plainly(rates, gallons, sum(points.values())) for rates in self.rates]))
        self.gone["sold"] = together(self.gone["sold"], points)
        found.gallons, found.points, found.is_sold = Fraction(0), {}, True
        return [("sold", cask, int(gallons), points, "")]

    def left(self, sort, name):
        found = self.things[sort][name]
        return wort_of(found.gallons, found.points) if found.gallons else None

    def first(self, sort, name):
        found = self.things[sort][name]
        return wort_of(found.gallons_first, found.points_first)

    def names(self, sort):
        return sorted(self.mashes if sort == "mash" else self.things[sort])

    def runnings_in(self, sort, name):
        return parts_told(self.things[sort][name].runnings)

    def casks_of(self, running):
        casks = self.things["cask"]
        return parts_told({name: cask.runnings[running] for name, cask in casks.items() if running in cask.runnings})

    def sums(self):
        """Points by malts, a dict for each column of sums_of."""
        kept = [together(mash.solved, mash.grains) for mash in self.mashes.values()]
        left = [together(*[thing.points for thing in self.things[sort].values()]) for sort in ("running", "beer", "cask")]
        columns = [self.given, together(*kept)] + left + [self.gone["sold"], self.gone["spilt"]]
        return [(malt, *[pair_of(column.get(malt, 0)) for column in columns]) for malt in sorted(self.given)]


def fitting_deed(rolls, plain):
    """A deed that most often can be done, by what a plain account has now."""
    new = {sort: [name for name in known if name not in plain.names(sort)] for sort, known in NAMES.items()}
    full = {
        sort: [name for name in sorted(found) if found[name].gallons] for sort, found in plain.things.items()
    }
    ripe = [name for name in sorted(plain.mashes) if plain.mashes[name].inside > plain.mashes[name].held]
    kinds = ["mash"] if new["mash"] and rolls.random() < 0.3 else []
    kinds += ["liquor"] * bool(plain.mashes) + ["draw"] * 3 * bool(ripe and new["running"])
    kinds += ["weaker", "return", "mix", "mix"] * bool(full["running"]) + ["rack", "rack"] * bool(full["beer"])
    kinds += ["sell"] * bool(full["cask"]) + ["spill"] * bool(full["running"] or full["beer"] or full["cask"])
    kind = rolls.choice(kinds or ["mash"])

    def some(gallons):
        whole = int(gallons)
        return max(1, rolls.choice((whole, rolls.randint(1, max(1, whole)), rolls.randint(1, max(1, whole // 3)))))

    def gallons_of(sort, name):
        return some(plain.things[sort][name].gallons)

    if kind == "mash":
        malts = rolls.sample(MALTS, rolls.randint(1, 6))
        rows = tuple((malt, rolls.randint(1, 90), rolls.randint(1, 40)) for malt in malts)
        return ("mash", rolls.choice(new["mash"] or NAMES["mash"]), rows, random_share(rolls), rolls.choice((0, 2, 9)))
    if kind == "liquor":
        return ("liquor", rolls.choice(sorted(plain.mashes)), rolls.randint(1, 120))
    if kind == "draw":
        mash = rolls.choice(ripe)
        free = plain.mashes[mash].inside - plain.mashes[mash].held
        return ("draw", mash, some(free), rolls.choice(new["running"]))
    if kind == "weaker":
        running = rolls.choice(full["running"])
        points = int(sum(plain.things["running"][running].points.values()))
        return ("weaker", running, rolls.choice((0, points, rolls.randint(0, points))))
    if kind == "return":
        running = rolls.choice(full["running"])
        return ("return", running, gallons_of("running", running), rolls.choice(sorted(plain.mashes)))
    if kind == "mix":
        runnings = rolls.sample(full["running"], rolls.randint(1, min(6, len(full["running"]))))
        return ("mix", rolls.choice(new["beer"] or NAMES["beer"]), tuple((name, gallons_of("running", name)) for name in runnings))
    if kind == "rack":
        beer = rolls.choice(full["beer"])
        return ("rack", beer, gallons_of("beer", beer), rolls.choice(new["cask"] or NAMES["cask"]))
    if kind == "sell":
        return ("sell", rolls.choice(full["cask"]))
    sort = rolls.choice([sort for sort in ("running", "beer", "cask") if full[sort]])
    name = rolls.choice(full[sort])
    return ("spill", sort, name, gallons_of(sort, name))


def random_brew(rolls, many, wrong=0.2, most_hour=40):
    """So many pairs (hour, deed) in the order in which they fit, some by chance that may not, hours never falling."""
    plain = PlainAccount([], 0)
    hours = sorted(rolls.randint(0, most_hour) for _ in range(many))
    brew = []
    for at, hour in enumerate(hours):
        deed = random_deed(rolls, 3) if rolls.random() < wrong else fitting_deed(rolls, plain)
        plain.step(hour, at, deed)
        brew.append((hour, deed))
    return brew


def full_brew(rolls):
    """Sixty deeds: four mashes of six malts each, of eight in all, twelve runnings, twelve beers, twenty casks."""
    brew, hour = [], 0
    for mash in NAMES["mash"]:
        rows = tuple((malt, rolls.randint(9000, 10 ** 4), rolls.randint(1, 40)) for malt in rolls.sample(MALTS, 6))
        brew.append(("mash", mash, rows, (rolls.choice((1, 5, 7, 11)), 12), rolls.randint(0, 9)))
        brew.append(("liquor", mash, rolls.randint(9000, 10 ** 4)))
    for at, running in enumerate(NAMES["running"]):
        brew.append(("draw", NAMES["mash"][at % 4], rolls.randint(1000, 2000), running))
    brew += [("weaker", "a", 7), ("weaker", "b", 1), ("return", "c", 333, "big"), ("return", "d", 77, "one")]
    for beer in NAMES["beer"]:
        runnings = rolls.sample(NAMES["running"], 6)
        brew.append(("mix", beer, tuple((running, rolls.randint(1, 50)) for running in runnings)))
    for at, cask in enumerate(NAMES["cask"]):
        brew.append(("rack", NAMES["beer"][at % 12], rolls.randint(1, 3), cask))
    brew += [("sell", "a"), ("sell", "b"), ("spill", "cask", "one", 1), ("spill", "running", "e", 100)]
    told = []
    for deed in brew:
        hour += rolls.randint(0, 160)
        told.append((min(hour, 10 ** 4), deed))
    return told
