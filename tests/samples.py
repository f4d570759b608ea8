"""What several test files need: samples of things, and plain oracles made with Python's own fractions."""

import math
import random
import unittest
from fractions import Fraction

WRONG_LEAVES = (None, True, False, 0, 1, -1, 2, 7, 10 ** 12, "", "pale", "1", "1/2", "Pale", "a b", (), [])


def dice(seed):
    """A random source that tells the same each time."""
    return random.Random(seed)


def pair_of(worth):
    """A Fraction as the tuple that the document tells."""
    worth = Fraction(worth)
    return (worth.numerator, worth.denominator)


def worth_of_pair(pair):
    """The Fraction of a told pair."""
    top, below = pair
    return Fraction(top, below)


def as_lists(thing):
    """The same thing with a list wherever a tuple was."""
    if isinstance(thing, (tuple, list)):
        return [as_lists(part) for part in thing]
    return thing


def as_mixture(thing, rolls):
    """The same thing with a list or a tuple, by chance, wherever one of them was."""
    if isinstance(thing, (tuple, list)):
        parts = [as_mixture(part, rolls) for part in thing]
        return parts if rolls.random() < 0.5 else tuple(parts)
    return thing


def is_told_plainly(thing):
    """Whether a told thing is made of tuples, whole numbers, texts and None alone."""
    if type(thing) is tuple:
        return all(is_told_plainly(part) for part in thing)
    return thing is None or type(thing) in (int, str)


def any_thing(rolls, deep):
    """Some thing made of numbers, True, False, None, texts, tuples and lists, at most so deep."""
    if deep == 0 or rolls.random() < 0.25:
        return rolls.choice([leaf for leaf in WRONG_LEAVES if leaf not in ((), [])])
    parts = [any_thing(rolls, deep - 1) for _ in range(rolls.choice((0, 1, 2, 2, 2, 3)))]
    return tuple(parts) if rolls.random() < 0.6 else parts


def nested(core, deep):
    """A core within so many tuples of one, and within so many lists of one."""
    in_tuples = in_lists = core
    for _ in range(deep):
        in_tuples = (in_tuples,)
        in_lists = [in_lists]
    return (in_tuples, in_lists)


def places_in(thing, path=()):
    """The paths of all parts of a thing, its own, (), first."""
    paths = [path]
    if isinstance(thing, (tuple, list)):
        for at, part in enumerate(thing):
            paths.extend(places_in(part, path + (at,)))
    return paths


def part_at(thing, path):
    """The part of a thing at a path."""
    for at in path:
        thing = thing[at]
    return thing


def with_part(thing, path, part):
    """The thing with another part at a path, lists and tuples else as they were."""
    if not path:
        return part
    parts = list(thing)
    parts[path[0]] = with_part(parts[path[0]], path[1:], part)
    return tuple(parts) if isinstance(thing, tuple) else parts


def changed_ones(thing):
    """Many things that are unlike the given one at one place."""
    found = []
    for path in places_in(thing):
        here = part_at(thing, path)
        others = list(WRONG_LEAVES) + [(here,), [here], (here, here)]
        if isinstance(here, tuple):
            others.extend([list(here), here[::-1], here + (1,), here[:-1]])
        if isinstance(here, int):
            others.extend([-here, here + 1, here * 2, str(here)])
        if isinstance(here, str):
            others.extend([here.upper(), here + " ", here + "\n", here * 9, here[:1] + "1", here[:1] + "{"])
        found.extend(with_part(thing, path, other) for other in others)
    return found


def random_worth(rolls, size=10 ** 12):
    """A Fraction above nought, small or great."""
    most = rolls.choice((3, 12, 100, size))
    return Fraction(rolls.randint(1, most), rolls.randint(1, most))


def wort_of(gallons, points):
    """The told wort of Fractions: gallons, and a dict of points by malts."""
    return (pair_of(gallons), tuple((malt, pair_of(points[malt])) for malt in sorted(points)))


def random_wort(rolls, malts, size=10 ** 12):
    """A wort of some of the malts."""
    chosen = rolls.sample(list(malts), rolls.randint(0, len(malts)))
    return wort_of(random_worth(rolls, size), {malt: random_worth(rolls, size) for malt in chosen})


def random_worths(rolls, many, size=10 ** 12):
    """So many Fractions from nought on, nought and like ones among them."""
    found = []
    for _ in range(many):
        found.append(rolls.choice([Fraction(0), random_worth(rolls, size)] + found[-1:] + [random_worth(rolls, size)]))
    return found


def random_runnings(rolls, many, size=10 ** 12):
    """So many runnings (gallons, points) with strengths to about 200, water and ones of one strength among them."""
    runnings, strengths = [], []
    for _ in range(many):
        gallons = random_worth(rolls, size) if rolls.random() < 0.3 else Fraction(rolls.randint(1, 600), rolls.randint(1, 9))
        strength = rolls.choice(
            [Fraction(0), Fraction(rolls.randint(0, 200)), Fraction(rolls.randint(0, 1200), rolls.randint(6, 13))]
            + strengths[-1:] + [Fraction(rolls.randint(0, size), rolls.randint(size // 200 + 1, size))]
        )
        strengths.append(strength)
        runnings.append((pair_of(gallons), pair_of(gallons * strength)))
    return runnings


def running_worths(runnings):
    """The Fractions (gallons, strength) of runnings."""
    found = []
    for gallons, points in runnings:
        found.append((worth_of_pair(gallons), worth_of_pair(points) / worth_of_pair(gallons)))
    return found


def random_wishes(rolls, many, runnings=(), most_gallons=100):
    """So many wishes, of one strength or between two, some of just a running's strength."""
    marks = [int(strength) for _, strength in running_worths(runnings) if strength <= 200] + [rolls.randint(0, 200)]
    wishes = []
    for beer in rolls.sample(["a", "b", "mild", "porter", "small", "zzzzzzzz"], many):
        least = min(200, max(0, rolls.choice(marks) + rolls.choice((0, 0, 1, -3, 7))))
        most = min(200, least + rolls.choice((0, 0, 1, 5, 40)))
        wishes.append((beer, rolls.randint(1, most_gallons), least, most))
    return wishes


def cost_plainly(runnings, wish, prices):
    """The least price of a gallon within a wish, as a Fraction, read off the lower edge of all (strength, price)."""
    spots = [(strength, worth_of_pair(price)) for (_, strength), price in zip(running_worths(runnings), prices)]
    low, high = max(Fraction(wish[2]), min(spots)[0]), min(Fraction(wish[3]), max(spots)[0])
    if low > high:
        return None
    marks = [low, high] + [strength for strength, _ in spots if low <= strength <= high]
    return min(edge_at(spots, mark) for mark in marks)


def edge_at(spots, mark):
    """How low the lower edge of the spots, seen from above as one hull, is at a mark within them."""
    edge = []
    for spot in sorted(spots):
        if edge and edge[-1][0] == spot[0]:
            continue
        while len(edge) > 1 and not turns_up(edge[-2], edge[-1], spot):
            edge.pop()
        edge.append(spot)
    for (left, low), (right, high) in zip(edge, edge[1:]):
        if left <= mark <= right:
            return low + (high - low) * (mark - left) / (right - left)
    return edge[0][1]


def turns_up(one, other, third):
    """Whether the way over three spots, from left to right, turns upward at the second one."""
    return (other[0] - one[0]) * (third[1] - one[1]) > (other[1] - one[1]) * (third[0] - one[0])


def random_mixing(rolls, runnings, many):
    """A mixing of so many rows, none empty, by which no running gives more than it has."""
    left = [gallons for gallons, _ in running_worths(runnings)]
    mixing = []
    for at in range(many):
        row = []
        for number in sorted(rolls.sample(range(len(runnings)), rolls.randint(1, len(runnings)))):
            # Only the last row may take all, so that the rows behind it find something.
            shares = (Fraction(1, 2), Fraction(1, 3), Fraction(2, 7)) + ((Fraction(1),) if at == many - 1 else ())
            gallons = left[number] * rolls.choice(shares)
            left[number] -= gallons
            row.append((number, pair_of(gallons)))
        mixing.append(row)
    return mixing


def mixing_plainly(runnings, wishes, thing):
    """Whether a thing is a mixing that makes the wishes, by Fractions."""
    if type(thing) not in (list, tuple) or len(thing) != len(wishes):
        return False
    worths = running_worths(runnings)
    left = [gallons for gallons, _ in worths]
    for (_, wished, least, most), row in zip(wishes, thing):
        if type(row) not in (list, tuple) or not all(is_portion_plainly(part, len(worths)) for part in row):
            return False
        if any(one[0] >= other[0] for one, other in zip(row, row[1:])):
            return False
        gallons = sum(worth_of_pair(part[1]) for part in row)
        points = sum(worth_of_pair(part[1]) * worths[part[0]][1] for part in row)
        if gallons != wished or not least * gallons <= points <= most * gallons:
            return False
        for number, given in row:
            left[number] -= worth_of_pair(given)
    return min(left) >= 0


def is_fraction_plainly(thing):
    """Whether a thing is a fraction, as it is told."""
    if type(thing) is not tuple or len(thing) != 2 or [type(part) for part in thing] != [int, int]:
        return False
    return thing[1] >= 1 and math.gcd(*thing) == 1


def is_portion_plainly(thing, many):
    """Whether a thing is a pair (number, gallons) of one of so many runnings."""
    if type(thing) is not tuple or len(thing) != 2 or type(thing[0]) is not int or not 0 <= thing[0] < many:
        return False
    return is_fraction_plainly(thing[1]) and thing[1][0] > 0


def lists_in(thing):
    """All lists in a thing, itself too."""
    found = [thing] if isinstance(thing, list) else []
    if isinstance(thing, (list, tuple)):
        for part in thing:
            found.extend(lists_in(part))
    return found


class QuestionTest(unittest.TestCase):
    """What holds of every question: lists are as good as tuples, nothing is changed, what is told is the asker's own."""

    def ask(self, question, *things):
        """The answer, behind asking in many ways; the things are handed in as tuples, as lists and mixed."""
        told = question(*things)
        words = repr(told)
        answers = [told]
        for handed in (things, as_lists(things), as_mixture(things, dice(repr(things)))):
            before = repr(handed)
            answer = question(*handed)
            self.assertEqual(repr(answer), words)
            self.assertEqual(repr(handed), before)
            self.assertEqual(shared_lists([answer, handed]), [])
            answers.append(answer)
        self.assertEqual(shared_lists(answers), [])
        for found in lists_in(answers.pop()):
            found.append("spoilt")
        self.assertEqual([repr(answer) for answer in answers], [words] * 3)
        self.assertEqual(repr(question(*things)), words)
        return told

    def look(self, question, *things):
        """Whether the last thing, which is looked at as it is, is taken; the others are handed in in many ways."""
        *others, thing = things
        before = repr(things)
        told = question(*things)
        self.assertIn(type(told), (bool,))
        for handed in (as_lists(others), as_mixture(others, dice(before))):
            self.assertIs(question(*handed, thing), told, before)
        self.assertEqual(repr(things), before)
        return told


def shared_lists(things):
    """The lists that stand in these things more than once, as one and the same."""
    found = [part for thing in things for part in lists_in(thing)]
    known = {}
    for part in found:
        known.setdefault(id(part), []).append(part)
    return [parts[0] for parts in known.values() if len(parts) > 1]


def reached_wishes(rolls, many, runnings, most_gallons=100):
    """So many wishes that all are reached, of one strength or between two."""
    strengths = [strength for _, strength in running_worths(runnings)]
    low, high = math.ceil(min(strengths)), math.floor(max(strengths))
    wishes = []
    for beer in rolls.sample(["a", "b", "mild", "porter", "small", "zzzzzzzz"], many):
        least = math.floor(min(strengths)) if low > high else rolls.randint(low, high)
        most = least + (1 if low > high else rolls.choice((0, 0, 1, 9)))
        wishes.append((beer, rolls.randint(1, most_gallons), least, most))
    return wishes


def are_prices_plainly(runnings, thing):
    """Whether a thing is a list or tuple of a fraction from nought on for each running."""
    if type(thing) not in (list, tuple) or len(thing) != len(runnings):
        return False
    return all(is_fraction_plainly(price) and price[0] >= 0 for price in thing)


def cost_of_all_plainly(runnings, wishes, prices):
    """What all wishes cost, as a Fraction; None where one has no cost."""
    costs = [cost_plainly(runnings, wish, prices) for wish in wishes]
    return None if None in costs else sum(cost * wish[1] for cost, wish in zip(costs, wishes))


def worth_plainly(runnings, prices):
    """The price of all runnings, as a Fraction."""
    return sum(worth_of_pair(gallons) * worth_of_pair(price) for (gallons, _), price in zip(runnings, prices))


def none_plainly(runnings, wishes, thing):
    """Whether a thing is prices that show that no mixing makes the wishes, by Fractions."""
    if not are_prices_plainly(runnings, thing):
        return False
    cost = cost_of_all_plainly(runnings, wishes, thing)
    return cost is None or cost > worth_plainly(runnings, thing)


def is_told_mixing(thing):
    """Whether a thing is lists and tuples just as a mixing is told."""
    if type(thing) is not list or not all(type(row) is list for row in thing):
        return False
    return all(is_portion_plainly(part, 10 ** 9) for row in thing for part in row)


def whole_brew(rolls, many_runnings, many_wishes):
    """Runnings, wishes and a mixing that makes them of just all that there is: whole numbers all through."""
    rows = [[rolls.choice((0, 1, 2, 7)) for _ in range(many_runnings)] for _ in range(many_wishes)]
    for number in range(many_runnings):
        rows[rolls.randrange(many_wishes)][number] += 1
    for row in rows:
        row[rolls.randrange(many_runnings)] += 1
    strengths = [rolls.choice((0, rolls.randint(0, 99), 50)) for _ in range(many_runnings)]
    wholes = [sum(row[number] for row in rows) for number in range(many_runnings)]
    runnings = [((whole, 1), (whole * strength, 1)) for whole, strength in zip(wholes, strengths)]
    wishes, mixing = [], []
    for beer, row in zip(("a", "b", "mild", "porter"), rows):
        strength = Fraction(sum(part * worth for part, worth in zip(row, strengths)), sum(row))
        wishes.append((beer, sum(row), math.floor(strength), math.ceil(strength)))
        mixing.append([(number, (part, 1)) for number, part in enumerate(row) if part])
    return runnings, wishes, mixing


def deep_things(rolls, good):
    """Things of any kind: some made by chance, and a good one with one of its parts made by chance."""
    path = rolls.choice(places_in(good))
    return [any_thing(rolls, 6), with_part(good, path, any_thing(rolls, 6 - len(path)))]
