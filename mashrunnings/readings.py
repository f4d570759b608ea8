"""What the words of a row tell, and the rows that texts of books and desks have alike.

Words that aren't so written are told as None, as only the row as a whole is refused.
"""

from mashrunnings.deeds import FORMS, is_deed
from mashrunnings.errors import BadFraction, BadRow
from mashrunnings.fractions import are_figures, fraction_in, number_of
from mashrunnings.kinds import is_number_from
from mashrunnings.rates import are_rates

MOST_HOUR = 10 ** 4
MOST_ENTRIES = 60
NUMBERS_IN_FORMS = ("gallons", "points")


def number_in(word):
    """The number of plain figures, without a nought ahead of others."""
    if not are_figures(word) or (word.startswith("0") and word != "0"):
        return None
    return number_of(word)


def bounded_number_in(word, most):
    """The number of plain figures, from 0 to most."""
    number = number_in(word)
    return number if is_number_from(number, 0, most) else None


def share_in(word):
    """The fraction of a word."""
    try:
        return fraction_in(word)
    except BadFraction:
        return None


def rows_in(words, long):
    """Tuples so long of a name and numbers, the last one shorter where words lack."""
    rows = []
    for at in range(0, len(words), long):
        numbers = [number_in(word) for word in words[at + 1:at + long]]
        rows.append(tuple([words[at]] + numbers))
    return tuple(rows)


def thing_in(words):
    """What the words of a deed tell, whether they make one or not; None where there are too few or too many."""
    kind = words[0]
    if kind == "mash" and len(words) > 4:
        return (kind, words[1], rows_in(words[4:], 3), share_in(words[2]), number_in(words[3]))
    if kind == "mix" and len(words) > 2:
        return (kind, words[1], rows_in(words[2:], 2))
    form = FORMS.get(kind)
    if form is None or len(words) != len(form) + 1:
        return None
    return tuple([kind] + [
        number_in(word) if place in NUMBERS_IN_FORMS else word for place, word in zip(form, words[1:])
    ])


def deed_in(words):
    """The deed of its words, of which there is one at least."""
    thing = thing_in(words)
    return thing if is_deed(thing) else None


def entry_in(words):
    """The pair (hour, deed) of an entry's words."""
    if len(words) < 2:
        return None
    hour = bounded_number_in(words[0], MOST_HOUR)
    deed = deed_in(words[1:])
    return None if hour is None or deed is None else (hour, deed)


def adds_rate(words, rates):
    """Put the pair of a row's words behind these rates; whether it may stand there."""
    if len(words) != 3:
        return False
    pair = (number_in(words[1]), number_in(words[2]))
    if not are_rates([*rates, pair]):
        return False
    rates.append(pair)
    return True


def adds_row(words, prices, duty, steps, step_in):
    """Put what a row's words tell behind prices, duty or steps; whether it may stand there."""
    if words[0] == "price":
        return len(duty) == 0 and adds_rate(words, prices)
    if words[0] == "duty":
        return len(prices) > 0 and len(steps) == 0 and adds_rate(words, duty)
    step = step_in(words, steps) if len(duty) > 0 else None
    if step is None:
        return False
    steps.append(step)
    return True


def read_rows(text, step_in):
    """(prices, duty, steps) of a text; refused with BadRow of the first row that can't stand.

    step_in tells what a row behind the duties is, of its words and of the steps ahead of it; None where it can't stand.
    """
    rows = text.split("\n")
    prices = []
    duty = []
    steps = []
    for at, row in enumerate(rows):
        if row != "" and not adds_row(row.split(" "), prices, duty, steps, step_in):
            raise BadRow(at)
    # No duty stands without a price ahead of it.
    if len(duty) == 0:
        raise BadRow(len(rows))
    return (prices, duty, steps)
