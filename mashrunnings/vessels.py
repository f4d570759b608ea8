"""Vessels by hours: which beer stands in which vessel, or the first hour at which a vessel lacks.

vessels are pairs (vessel, room), stays tuples (beer, gallons, begin, end): from begin on, no more at end, the beer
stands in a vessel by itself, and may be pumped over at any hour.
"""

from mashrunnings.kinds import is_number, is_pair, is_row

HOURS_OF_A_DAY = 24


def stays_of(runnings_at, wishes, mixing, days):
    """The stays of wishes mixed so: from the first running that comes to so many days behind the last one."""
    stays = []
    for wish, row, many in zip(wishes, mixing, days):
        hours = [runnings_at[number] for number, gallons in row]
        stays.append((wish[0], wish[1], min(hours), max(hours) + many * HOURS_OF_A_DAY))
    return stays


def standing(stays, hour):
    """The stays of the beers that stand at an hour."""
    return [stay for stay in stays if stay[2] <= hour < stay[3]]


def greatest_first(stays):
    """Stays by gallons, the greatest first, of like ones the lesser name."""
    return sorted(stays, key=lambda stay: (-stay[1], stay[0]))


def roomiest_first(vessels):
    """Vessels by room, the roomiest first, of like ones the lesser name."""
    return sorted(vessels, key=lambda vessel: (-vessel[1], vessel[0]))


def lacking_gallons(vessels, stays):
    """The gallons of the first stay whose vessel, one by one, isn't there or has less room; None where there's none."""
    for at, stay in enumerate(stays):
        if at >= len(vessels) or vessels[at][1] < stay[1]:
            return stay[1]
    return None


def housed(vessels, stays):
    """("plan", rows), rows telling who comes into which vessel when, or ("lacks", hour, gallons) of the first hour."""
    ordered = roomiest_first(vessels)
    rows = []
    before = {}
    for hour in sorted(set([turn for stay in stays for turn in (stay[2], stay[3])])):
        here = greatest_first(standing(stays, hour))
        lacking = lacking_gallons(ordered, here)
        if lacking is not None:
            return ("lacks", hour, lacking)
        now = {stay[0]: vessel[0] for stay, vessel in zip(here, ordered)}
        rows.extend([(hour, beer, now[beer]) for beer in sorted(now) if before.get(beer) != now[beer]])
        before = now
    return ("plan", rows)


def shows_lack(vessels, stays, thing):
    """Whether a thing is (hour, gallons) with more beers of so much or more then than vessels with so much room."""
    if not is_pair(thing) or not is_number(thing[0]) or not is_number(thing[1]):
        return False
    hour, gallons = thing
    beers = [stay for stay in standing(stays, hour) if stay[1] >= gallons]
    roomy = [vessel for vessel in vessels if vessel[1] >= gallons]
    return len(beers) > len(roomy)


def is_planned(vessels, stays, thing):
    """Whether a thing is (hour, beer, vessel), the beer standing then, the vessel with room for it."""
    if not isinstance(thing, tuple) or len(thing) != 3 or not is_number(thing[0]):
        return False
    hour, beer, name = thing
    gallons = [stay[1] for stay in standing(stays, hour) if stay[0] == beer]
    rooms = [vessel[1] for vessel in vessels if vessel[0] == name]
    return len(gallons) > 0 and len(rooms) > 0 and gallons[0] <= rooms[0]


def all_begin(stays, rows):
    """Whether each beer has a row at its begin."""
    begins = [(row[0], row[1]) for row in rows]
    return all((stay[2], stay[0]) in begins for stay in stays)


def stand_apart(stays, rows, hour):
    """Whether, behind all rows of an hour, no two beers that stand are in one vessel."""
    last = {row[1]: row[2] for row in rows if row[0] <= hour}
    taken = [last[stay[0]] for stay in standing(stays, hour)]
    return len(set(taken)) == len(taken)


def shows_plan(vessels, stays, thing):
    """Whether a thing is rows (hour, beer, vessel) by which each beer stands in a vessel by itself all the time."""
    if not is_row(thing) or not all(is_planned(vessels, stays, row) for row in thing):
        return False
    hours = [row[0] for row in thing]
    if hours != sorted(hours) or not all_begin(stays, thing):
        return False
    # Between the hours of rows beers only go, so no two can come together there.
    return all(stand_apart(stays, thing, hour) for hour in sorted(set(hours)))
