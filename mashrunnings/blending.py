"""How many times the runnings are needed at least to make wishes, by which mixing, and prices that show it.

The unknowns are how much of each blend goes into its wish, what is left of each running, and the times. A line for each
wish says that its blends have its gallons, a line for each running that what it gives and what is left are times its
gallons. The prices are what the line of the times says of what is left: a drop more of a running is worth so much.
"""

from mashrunnings.blends import blends_of
from mashrunnings.fractions import common_below, common_divisor, made
from mashrunnings.tableaus import Tableau


def wish_line(place, wish, columns, many):
    """The line of the wish at a place, of so many runnings: its blends have its gallons."""
    blended = [sum([gallons for number, gallons in blend]) if own == place else 0 for own, blend in columns]
    return blended + [0] * (many + 1) + [wish[1]]


def running_line(number, whole, columns, many):
    """The line of one of so many runnings: what it gives and what is left of it are times its whole gallons."""
    blended = [sum([gallons for own, gallons in blend if own == number]) for place, blend in columns]
    left = [1 if own == number else 0 for own in range(many)]
    return blended + left + [-whole, 0]


def columns_of(runnings, wishes):
    """Pairs (place, blend) of all blends of the wishes, by places; None where a wish has none."""
    columns = []
    for place, wish in enumerate(wishes):
        blends = blends_of(runnings, wish)
        if len(blends) == 0:
            return None
        columns.extend([(place, blend) for blend in blends])
    return columns


def scarcest_place(tableau, first):
    """The place, from first on, of the running of which the most times are needed, as the blends are now."""
    found = None
    for place in range(first, len(tableau.lines)):
        line = tableau.lines[place]
        best = None if found is None else tableau.lines[found]
        # Both numbers stand below nought; a running with nothing in it has none for its times.
        if line[-2] < 0 and (best is None or line[-1] * best[-2] > best[-1] * line[-2]):
            found = place
    return found


def tableau_of(runnings, wishes, columns, below):
    """The first tableau, its runnings' gallons over a common below, each line telling what is left of the running."""
    many = len(runnings)
    wholes = [gallons[0] * (below // gallons[1]) for gallons, points in runnings]
    lines = [wish_line(place, wish, columns, many) for place, wish in enumerate(wishes)]
    lines.extend([running_line(number, whole, columns, many) for number, whole in enumerate(wholes)])
    left = [len(columns) + number for number in range(many)]
    # The lines of wishes tell nothing yet: each is solved for one of its blends at once.
    return Tableau(lines, [None for wish in wishes] + left)


def solve_at_first(tableau, columns, many):
    """Make each of so many wishes by its first blend, with just enough times; the place that tells the times."""
    own_places = [place for place, blend in columns]
    for place in range(many):
        tableau.solve_for(place, own_places.index(place))
    found = scarcest_place(tableau, many)
    tableau.solve_for(found, len(tableau.lines[found]) - 2)
    return found


def mixing_in(tableau, columns, runnings, wishes):
    """The mixing by the blends that the tableau tells."""
    gallons_by_row = [[0 for running in runnings] for wish in wishes]
    for column, line in zip(tableau.basis, tableau.lines):
        if column < len(columns):
            place, blend = columns[column]
            for number, gallons in blend:
                gallons_by_row[place][number] += gallons * line[-1]
    return [
        [(number, made(gallons, tableau.below)) for number, gallons in enumerate(row) if gallons > 0]
        for row in gallons_by_row
    ]


def prices_in(line, first, many):
    """The prices of so many runnings that the line of the times has from a column on, as small whole numbers."""
    tops = [-number for number in line[first:first + many]]
    divisor = 0
    for top in tops:
        divisor = common_divisor(divisor, top)
    return tuple([(top // divisor, 1) for top in tops])


def least_blending(runnings, wishes):
    """The tuple (times, mixing, prices) of the least times that make the wishes; None where one isn't reached."""
    columns = columns_of(runnings, wishes)
    if columns is None:
        return None
    below = common_below([gallons for gallons, points in runnings])
    tableau = tableau_of(runnings, wishes, columns, below)
    place = solve_at_first(tableau, columns, len(wishes))
    tableau.make_least(place)
    line = tableau.lines[place]
    mixing = mixing_in(tableau, columns, runnings, wishes)
    return (made(line[-1] * below, tableau.below), mixing, prices_in(line, len(columns), len(runnings)))
