"""Which developed sums hang on which known cells, with years told by their place."""

from lagwedge.errors import BadWedge, NoCell
from lagwedge.wedge import MOST_DEPTH, MOST_YEARS, last_known
from lagwedge.whole import is_within


def last_lag(years, depth, row):
    """Tell the last known lag of the year at a place."""
    check_shape(years, depth)
    if not is_within(row, 0, years - 1):
        raise NoCell(row, 0)
    return last_known(years, depth, row)


def reach(years, depth, row, lag):
    """Tell the places of all developed sums that hang on a known cell, sorted."""
    check_shape(years, depth)
    if not is_within(row, 0, years - 1) or not is_within(lag, 0, last_known(years, depth, row)):
        raise NoCell(row, lag)
    places = [(other, at) for other in range(years) for at in range(depth + 1)]
    return [place for place in places if hangs(years, depth, place, (row, lag))]


def check_shape(years, depth):
    """Refuse a number of years or a depth that no wedge has."""
    if not is_within(years, 1, MOST_YEARS) or not is_within(depth, 1, MOST_DEPTH):
        raise BadWedge(-1)


def hangs(years, depth, place, cell):
    """Tell whether the developed sum at a place hangs on a known cell."""
    other, at = place
    row, lag = cell
    if other == row:
        return at >= lag
    last = last_known(years, depth, row)
    # No step leads to a sum that is known, so none of another year's known sums hangs on the cell.
    return any([lag <= step + 1 <= last for step in range(last_known(years, depth, other), at)])
