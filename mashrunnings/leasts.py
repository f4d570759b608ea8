"""The least grain: how many times the runnings just make the wishes."""

from mashrunnings.blending import least_blending
from mashrunnings.fractions import NOUGHT, made, over
from mashrunnings.mixings import running_shared, shows_mixing
from mashrunnings.wishes import are_prices, cost_of_all, worth_of


def many_times(runnings, times):
    """The runnings of times as much grain."""
    return [running_shared(running, times) for running in runnings]


def least_of(runnings, wishes):
    """(times, mixing, prices): the least times that make the wishes, how, and prices by which no less does.

    (None, None, None) where some wish isn't reached.
    """
    found = least_blending(runnings, wishes)
    if found is None:
        return (None, None, None)
    return found


def shows_least(runnings, wishes, times, mixing, thing):
    """Whether the mixing makes the wishes of times the runnings, and a thing is prices by which no less does."""
    if not shows_mixing(many_times(runnings, times), wishes, mixing) or not are_prices(runnings, thing):
        return False
    worth = worth_of(runnings, thing)
    if worth == NOUGHT:
        return False
    return over(cost_of_all(runnings, wishes, thing), worth) == tuple(times)


def grain_of(malts, times):
    """Pairs (malt, pounds) of times as many pounds of each malt."""
    return [(malt, made(pounds * times[0], times[1])) for malt, pounds, points in malts]
