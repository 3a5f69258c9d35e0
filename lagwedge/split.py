"""Wedges as tops times columns: what of each year's end falls to each lag."""

from lagwedge.developed import ends
from lagwedge.errors import NoSplit, Unlike
from lagwedge.ladder import factors
from lagwedge.parts import NOUGHT, ONE, minus, over, times, total
from lagwedge.wedge import cell_sum, is_row, knowing


def shares(wedge, *, plan=None):
    """Tell for each lag which share of its end a year has by then."""
    leading = factors(wedge, plan=plan)
    refuse_nought(leading)
    found = [ONE]
    for factor in reversed(leading):
        found.append(over(found[-1], factor))
    return list(reversed(found))


def split(wedge, *, plan=None):
    """Tell the ends, and for each lag the share that falls to it alone."""
    found = shares(wedge, plan=plan)
    columns = [minus(share, ahead) for share, ahead in zip(found, [NOUGHT, *found])]
    return (ends(wedge, plan=plan), columns)


def product(tops, columns):
    """Tell the table of each top times each column."""
    return [[times(top, column) for column in columns] for top in tops]


def misfit(wedge, tops, columns):
    """Tell None where tops and columns fit a wedge, else where they fail first."""
    if not is_row(tops, len(wedge)) or not is_row(columns, wedge.depth + 1):
        raise Unlike()
    if total(columns) != ONE:
        return ("sum", -1)
    year = unfit_year(wedge, tops, columns)
    if year is not None:
        return ("row", year)
    lag = unfit_lag(wedge, tops, columns)
    if lag is not None:
        return ("column", lag)
    return None


def refuse_nought(leading):
    """Refuse the first factor by which nothing can be shared."""
    for step, factor in enumerate(leading):
        if factor == NOUGHT:
            raise NoSplit(step)


def unfit_year(wedge, tops, columns):
    """Tell the first year whose top doesn't come to its last known sum, or None."""
    for year, top, latest in zip(wedge.years(), tops, wedge.latest()):
        share = total(columns[:wedge.known(year) + 1])
        if times(top, share) != latest:
            return year
    return None


def unfit_lag(wedge, tops, columns):
    """Tell the first lag whose column doesn't come to the sum of its known cells, or None."""
    for lag, column in enumerate(columns):
        if times(column, total(knowing(wedge, tops, lag))) != cell_sum(wedge, lag):
            return lag
    return None
