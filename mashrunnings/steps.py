"""The steps of a desk's text: what a row behind the duties tells to do or asks, as a tuple with its kind ahead."""

from mashrunnings.deeds import WORT_SORTS
from mashrunnings.kinds import is_name
from mashrunnings.readings import MOST_ENTRIES, MOST_HOUR, bounded_number_in, entry_in, number_in
from mashrunnings.wishes import is_wish

MOST_NUMBER = 10 ** 9
MOST_WISHES = 4
MOST_RUNNINGS = 6
# What stands behind the first word of rows that have the same words always.
ROW_FORMS = {
    "strike": ("number",),
    "undo": (),
    "left": ("sort", "hour"),
    "voids": ("hour",),
    "runnings": ("cask", "hour"),
    "malts": ("cask", "hour"),
    "sums": ("hour",),
    "sold": ("hour",),
}


def steps_of(steps, kind):
    """Those of a kind among steps."""
    return [step for step in steps if step[0] == kind]


def enter_step_in(words, steps):
    """The entry of a row's words, counted by rows, undone ones too."""
    entry = entry_in(words)
    if entry is None or len(steps_of(steps, "enter")) >= MOST_ENTRIES:
        return None
    return ("enter", *entry)


def right_step_in(words):
    """What `right NUMBER` and an entry's words tell."""
    number = bounded_number_in(words[1], MOST_NUMBER) if len(words) > 1 else None
    entry = entry_in(words[2:])
    return None if number is None or entry is None else ("right", number, *entry)


def wish_step_in(words, steps):
    """What `wish BEER GALLONS LEAST MOST` tells: a fifth one can't stand, nor one of a beer told ahead."""
    wish = tuple(words[1:2] + [number_in(word) for word in words[2:]])
    others = [step[1] for step in steps_of(steps, "wish")]
    if not is_wish(wish) or len(others) >= MOST_WISHES or wish[0] in [other[0] for other in others]:
        return None
    return ("wish", wish)


def mixing_step_in(words):
    """What `made HOUR RUNNING ..` or `least HOUR RUNNING ..` asks, of unlike runnings."""
    hour = bounded_number_in(words[1], MOST_HOUR) if len(words) > 1 else None
    runnings = words[2:]
    if hour is None or not 1 <= len(runnings) <= MOST_RUNNINGS or len(set(runnings)) != len(runnings):
        return None
    if not all(is_name(running) for running in runnings):
        return None
    return (words[0], hour, runnings)


def thing_at(place, word):
    """What a word tells at a place of a form."""
    if place == "number":
        return bounded_number_in(word, MOST_NUMBER)
    if place == "hour":
        return bounded_number_in(word, MOST_HOUR)
    stands = word in WORT_SORTS if place == "sort" else is_name(word)
    return word if stands else None


def formed_step_in(words):
    """What a row tells that has the same words always."""
    form = ROW_FORMS[words[0]]
    if len(words) != len(form) + 1:
        return None
    things = [thing_at(place, word) for place, word in zip(form, words[1:])]
    return None if any(thing is None for thing in things) else tuple(words[:1] + things)


def desk_step_in(words, steps):
    """The step of a row's words behind these steps; None where it can't stand there."""
    if words[0] == "right":
        return right_step_in(words)
    if words[0] == "wish":
        return wish_step_in(words, steps)
    if words[0] in ("made", "least"):
        return mixing_step_in(words)
    if words[0] in ROW_FORMS:
        return formed_step_in(words)
    return enter_step_in(words, steps)
