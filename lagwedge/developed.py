"""The developed table of a wedge, and what is still to come by it."""

from lagwedge.ladder import factors
from lagwedge.parts import NOUGHT, minus, times, total


def developed(wedge, *, plan=None):
    """Tell for each year its sums at all lags, those that aren't known by the factors."""
    leading = factors(wedge, plan=plan)
    return [developed_row(row, leading) for row in wedge.sums()]


def ends(wedge, *, plan=None):
    """Tell the developed sum of each year at the last lag."""
    return [row[-1] for row in developed(wedge, plan=plan)]


def still(wedge, *, plan=None):
    """Tell for each year its end less its last known sum."""
    return [minus(end, latest) for end, latest in zip(ends(wedge, plan=plan), wedge.latest())]


def still_sum(wedge, *, plan=None):
    """Tell all that is still to come."""
    return total(still(wedge, plan=plan))


def foretold(wedge, *, plan=None):
    """Tell for each year the cell that is foretold for the coming year."""
    table = developed(wedge, plan=plan)
    return [cell_behind(row, wedge.known(year)) for row, year in zip(table, wedge.years())]


def developed_row(sums, leading):
    """Lead a year's known sums on to the last lag."""
    row = list(sums)
    for factor in leading[len(sums) - 1:]:
        row.append(times(row[-1], factor))
    return row


def cell_behind(row, lag):
    """Tell what a row's sum grows by behind a lag, which is nought behind the last one."""
    if lag + 1 == len(row):
        return NOUGHT
    return minus(row[lag + 1], row[lag])
