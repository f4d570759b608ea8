"""Equations in whole numbers, turned until the least worth of one unknown is found."""


def cleared(line, chosen, column, below):
    """A line without the unknown of a column, by the line that is chosen to tell it."""
    top = chosen[column]
    own = line[column]
    # The division leaves nothing: what comes is, as each number of a tableau, one determinant of the first lines.
    return [(number * top - own * other) // below for number, other in zip(line, chosen)]


class Tableau:
    """Lines of whole numbers: the sum of each one's numbers times the unknowns, from nought on, is its last number.

    basis has for each line the column of the unknown that it tells: below stands there, nought in all other lines.
    So all numbers stay whole, and none has to be brought to lowest terms on the way.
    """

    def __init__(self, lines, basis):
        self.lines = lines
        self.basis = basis
        self.below = 1

    def solve_for(self, place, column):
        """The line at a place tells the unknown of a column from now on."""
        chosen = self.lines[place]
        if chosen[column] < 0:
            chosen = [-number for number in chosen]
        self.lines = [
            chosen if at == place else cleared(line, chosen, column, self.below) for at, line in enumerate(self.lines)
        ]
        self.basis = [column if at == place else known for at, known in enumerate(self.basis)]
        self.below = chosen[column]

    def lessening_column(self, place):
        """The first column whose unknown, as it grows, makes the one told at a place less; None where none does."""
        line = self.lines[place]
        for column in range(len(line) - 1):
            if line[column] > 0 and column != self.basis[place]:
                return column
        return None

    def ends_before(self, column, one, other):
        """Whether, as the unknown of a column grows, the one told at a place is nought ahead of another one's."""
        first = self.lines[one]
        second = self.lines[other]
        sooner = first[-1] * second[column]
        later = second[-1] * first[column]
        # Of two at once the lesser column goes, else the same lines could come again and again (Bland's rule).
        return sooner < later or (sooner == later and self.basis[one] < self.basis[other])

    def ending_place(self, column, kept):
        """The place, but for the kept one, whose unknown is nought first as the one of a column grows."""
        found = None
        for place, line in enumerate(self.lines):
            if place != kept and line[column] > 0 and (found is None or self.ends_before(column, place, found)):
                found = place
        return found

    def make_least(self, place):
        """Turn the lines until the unknown told at a place is as little as can be, which must be above nought."""
        column = self.lessening_column(place)
        while column is not None:
            self.solve_for(self.ending_place(column, place), column)
            column = self.lessening_column(place)
