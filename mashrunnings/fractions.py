"""Fractions: tuples (top, below) without a common divisor, below 1 or more.

Handed in they may be lists, too; told they are tuples.
"""

from mashrunnings.errors import BadFraction, NoShare
from mashrunnings.kinds import is_number, is_pair

NOUGHT = (0, 1)
ONE = (1, 1)
FIGURES = "0123456789"
# Python refuses to write a number of more than 4300 figures at once, so greater ones are written piece by piece.
PIECE_LENGTH = 60
PIECE = 10 ** 60


def common_divisor(one, other):
    """The greatest common divisor of two numbers from nought on."""
    while other:
        one, other = other, one % other
    return one


def common_below(fractions):
    """The least number from 1 on that the belows of all these fractions divide."""
    together = 1
    for top, below in fractions:
        together = together // common_divisor(together, below) * below
    return together


def is_fraction(thing):
    """Whether a thing is a fraction, as it is told."""
    if not is_pair(thing):
        return False
    top, below = thing
    if not is_number(top) or not is_number(below) or below < 1:
        return False
    return common_divisor(abs(top), below) == 1


def made(top, below):
    """The fraction worth top over below, any two numbers, below not 0."""
    divisor = common_divisor(abs(top), abs(below))
    if below < 0:
        divisor = -divisor
    return (top // divisor, below // divisor)


def plus(one, other):
    """The sum of two fractions."""
    return made(one[0] * other[1] + other[0] * one[1], one[1] * other[1])


def less(one, other):
    """The first fraction less the second."""
    return made(one[0] * other[1] - other[0] * one[1], one[1] * other[1])


def times(one, other):
    """The product of two fractions."""
    return made(one[0] * other[0], one[1] * other[1])


def over(one, other):
    """The first fraction over the second; refused with NoShare where that is nought."""
    if other[0] == 0:
        raise NoShare("nothing can be shared by nought")
    return made(one[0] * other[1], one[1] * other[0])


def is_under(one, other):
    """Whether the first fraction is less than the second."""
    return one[0] * other[1] < other[0] * one[1]


def rounded_up(one):
    """The least whole number that isn't below the fraction."""
    return -(-one[0] // one[1])


def figures_of(number):
    """The plain figures of a number from nought on, however great."""
    pieces = []
    while number >= PIECE:
        number, piece = divmod(number, PIECE)
        pieces.append(str(piece).zfill(PIECE_LENGTH))
    pieces.append(str(number))
    return "".join(pieces[::-1])


def number_text(number):
    """A number by plain figures, a minus ahead of them where it is below nought."""
    if number < 0:
        return "-" + figures_of(-number)
    return figures_of(number)


def fraction_text(one):
    """A fraction as TOP, where its below is 1, or as TOP/BELOW."""
    top, below = one
    if below == 1:
        return number_text(top)
    return number_text(top) + "/" + figures_of(below)


def are_figures(text):
    """Whether a text is one figure or more, and nothing else."""
    return text != "" and all(sign in FIGURES for sign in text)


def number_of(figures):
    """The number of plain figures, taken one by one as Python reads no more than 4300 of them at once."""
    number = 0
    for figure in figures:
        number = number * 10 + int(figure)
    return number


def fraction_in(text):
    """The fraction of which fraction_text tells just this text, else refused with BadFraction."""
    top_figures, slash, below_figures = text.removeprefix("-").partition("/")
    if not slash:
        below_figures = "1"
    if not are_figures(top_figures) or not are_figures(below_figures):
        raise BadFraction("a fraction is written by plain figures")
    top = number_of(top_figures)
    below = number_of(below_figures)
    if below == 0:
        raise BadFraction("nothing stands over nought")
    found = made(-top if text.startswith("-") else top, below)
    # One worth can be written in many ways (06/4, -0, 3/1), of which only the told one is taken.
    if fraction_text(found) != text:
        raise BadFraction("a fraction is written in one way only")
    return found
