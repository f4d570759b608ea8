"""What several test files need: samples of things, and plain oracles made with Python's own fractions."""

import random
from fractions import Fraction

WRONG_LEAVES = (None, True, False, 0, 1, -1, 2, 7, 10 ** 12, "", "pale", "1", "1/2", "Pale", "a b", (), [])


def dice(seed):
    """A random source that tells the same each time."""
    return random.Random(seed)


def pair_of(worth):
    """A Fraction as the tuple that the document tells."""
    worth = Fraction(worth)
    return (worth.numerator, worth.denominator)


def worth_of_pair(pair):
    """The Fraction of a told pair."""
    top, below = pair
    return Fraction(top, below)


def as_lists(thing):
    """The same thing with a list wherever a tuple was."""
    if isinstance(thing, (tuple, list)):
        return [as_lists(part) for part in thing]
    return thing


def as_mixture(thing, rolls):
    """The same thing with a list or a tuple, by chance, wherever one of them was."""
    if isinstance(thing, (tuple, list)):
        parts = [as_mixture(part, rolls) for part in thing]
        return parts if rolls.random() < 0.5 else tuple(parts)
    return thing


def is_told_plainly(thing):
    """Whether a told thing is made of tuples, whole numbers, texts and None alone."""
    if type(thing) is tuple:
        return all(is_told_plainly(part) for part in thing)
    return thing is None or type(thing) in (int, str)


def any_thing(rolls, deep):
    """Some thing made of numbers, True, False, None, texts, tuples and lists, at most so deep."""
    if deep == 0 or rolls.random() < 0.25:
        return rolls.choice([leaf for leaf in WRONG_LEAVES if leaf not in ((), [])])
    parts = [any_thing(rolls, deep - 1) for _ in range(rolls.choice((0, 1, 2, 2, 2, 3)))]
    return tuple(parts) if rolls.random() < 0.6 else parts


def nested(core, deep):
    """A core within so many tuples of one, and within so many lists of one."""
    in_tuples = in_lists = core
    for _ in range(deep):
        in_tuples = (in_tuples,)
        in_lists = [in_lists]
    return (in_tuples, in_lists)


def places_in(thing, path=()):
    """The paths of all parts of a thing, its own, (), first."""
    paths = [path]
    if isinstance(thing, (tuple, list)):
        for at, part in enumerate(thing):
            paths.extend(places_in(part, path + (at,)))
    return paths


def part_at(thing, path):
    """The part of a thing at a path."""
    for at in path:
        thing = thing[at]
    return thing


def with_part(thing, path, part):
    """The thing with another part at a path, lists and tuples else as they were."""
    if not path:
        return part
    parts = list(thing)
    parts[path[0]] = with_part(parts[path[0]], path[1:], part)
    return tuple(parts) if isinstance(thing, tuple) else parts


def changed_ones(thing):
    """Many things that are unlike the given one at one place."""
    found = []
    for path in places_in(thing):
        here = part_at(thing, path)
        others = list(WRONG_LEAVES) + [(here,), [here], (here, here)]
        if isinstance(here, tuple):
            others.extend([list(here), here[::-1], here + (1,), here[:-1]])
        if isinstance(here, int):
            others.extend([-here, here + 1, here * 2, str(here)])
        if isinstance(here, str):
            others.extend([here.upper(), here + " ", here + "\n", here * 9, here[:1] + "1", here[:1] + "{"])
        found.extend(with_part(thing, path, other) for other in others)
    return found


def random_worth(rolls, size=10 ** 12):
    """A Fraction above nought, small or great."""
    most = rolls.choice((3, 12, 100, size))
    return Fraction(rolls.randint(1, most), rolls.randint(1, most))


def wort_of(gallons, points):
    """The told wort of Fractions: gallons, and a dict of points by malts."""
    return (pair_of(gallons), tuple((malt, pair_of(points[malt])) for malt in sorted(points)))


def random_wort(rolls, malts, size=10 ** 12):
    """A wort of some of the malts."""
    chosen = rolls.sample(list(malts), rolls.randint(0, len(malts)))
    return wort_of(random_worth(rolls, size), {malt: random_worth(rolls, size) for malt in chosen})
