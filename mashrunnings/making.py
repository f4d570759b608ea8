"""Wishes made by a mixing, which is told, or by none, which prices show."""

from mashrunnings.blending import least_blending
from mashrunnings.fractions import NOUGHT, ONE, is_under
from mashrunnings.wishes import are_prices, cost_of_all, worth_of


def shows_none(runnings, wishes, thing):
    """Whether a thing is prices by which all wishes cost more than all runnings are worth, or one has no cost."""
    if not are_prices(runnings, thing):
        return False
    cost = cost_of_all(runnings, wishes, thing)
    return cost is None or is_under(worth_of(runnings, thing), cost)


def made_of(runnings, wishes):
    """(mixing, None) with a mixing that makes the wishes, or (None, prices) with prices that show that none does."""
    found = least_blending(runnings, wishes)
    if found is None:
        # Where a wish isn't reached, any prices show it.
        return (None, tuple([NOUGHT for running in runnings]))
    needed, mixing, prices = found
    if is_under(ONE, needed):
        return (None, prices)
    return (mixing, None)
