"""Kinds of plain values, asked of things that may be anything."""

LONGEST_NAME = 8


def is_number(thing):
    """Whether a thing is a whole number; Python counts True and False as such, the document doesn't."""
    return isinstance(thing, int) and not isinstance(thing, bool)


def is_name(thing):
    """Whether a thing is a NAME: a text of one to eight letters a to z."""
    if not isinstance(thing, str) or not 1 <= len(thing) <= LONGEST_NAME:
        return False
    return all("a" <= letter <= "z" for letter in thing)


def is_pair(thing):
    """Whether a thing is a tuple of two, whatever these are."""
    return isinstance(thing, tuple) and len(thing) == 2


def is_row(thing):
    """Whether a thing is a list or a tuple: where a list is told, either one may be looked at."""
    return isinstance(thing, (list, tuple))


def is_number_from(thing, least, most):
    """Whether a thing is a whole number from least to most."""
    return is_number(thing) and least <= thing <= most
