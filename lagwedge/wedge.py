"""Wedges: known cells by years and lags."""

from lagwedge.errors import BadWedge, NoCell, Unlike
from lagwedge.parts import NOUGHT, is_part, plus, shown_part, shown_whole, times, total
from lagwedge.whole import is_within

MOST_FIRST = 9999
MOST_DEPTH = 6
MOST_YEARS = 10


class Wedge:
    """The known cells of some years, one behind the other, as seen in the last of them."""

    def __init__(self, first, depth, rows):
        check_frame(first, depth, rows)
        check_rows(depth, rows)
        self.first = first
        self.depth = depth
        self.look = first + len(rows) - 1
        self.cells = [list(row) for row in rows]

    def rows(self):
        """Tell the cells, one list for each year."""
        return [list(row) for row in self.cells]

    def years(self):
        """Tell the years, the first one first."""
        return list(range(self.first, self.look + 1))

    def knows(self, year, lag):
        """Tell of any two things whether they are the year and lag of a known cell."""
        if not is_within(year, self.first, self.look):
            return False
        return is_within(lag, 0, len(self.cells[year - self.first]) - 1)

    def known(self, year):
        """Tell the last known lag of a year."""
        if not self.knows(year, 0):
            raise NoCell(year, 0)
        return len(self.cells[year - self.first]) - 1

    def cell(self, year, lag):
        """Tell a known cell."""
        if not self.knows(year, lag):
            raise NoCell(year, lag)
        return self.cells[year - self.first][lag]

    def sums(self):
        """Tell the known sums, as lists like the rows."""
        return [running_sums(row) for row in self.cells]

    def latest(self):
        """Tell the last known sum of each year."""
        return [total(row) for row in self.cells]

    def whole_sum(self):
        """Tell all cells added."""
        return total(self.latest())

    def changed(self, year, lag, amount):
        """Tell the wedge with a part added to one known cell."""
        turned = plus(self.cell(year, lag), amount)
        rows = self.rows()
        rows[year - self.first][lag] = turned
        return Wedge(self.first, self.depth, rows)

    def joined(self, other):
        """Tell the wedge with the other one's cells added to this one's."""
        if not are_alike(self, other):
            raise Unlike()
        rows = [joined_row(mine, theirs) for mine, theirs in zip(self.cells, other.cells)]
        return Wedge(self.first, self.depth, rows)

    def scaled(self, amount):
        """Tell the wedge with each cell that many times."""
        rows = [[times(cell, amount) for cell in row] for row in self.cells]
        return Wedge(self.first, self.depth, rows)

    def grown(self, adds):
        """Tell the wedge one year later, with one part for each year and one for the new year."""
        check_adds(len(self.cells), adds)
        rows = [grown_row(row, self.depth, amount) for row, amount in zip(self.cells, adds)]
        rows.append([adds[-1]])
        return Wedge(self.first, self.depth, rows)

    def __len__(self):
        return len(self.cells)

    def __eq__(self, other):
        return (isinstance(other, Wedge) and self.first == other.first
                and self.depth == other.depth and self.cells == other.cells)

    def __repr__(self):
        return f"Wedge(first={self.first}, depth={self.depth}, rows={shown_rows(self.cells)})"

    def __str__(self):
        return "\n".join([shown_line(year, row) for year, row in zip(self.years(), self.cells)])


def last_known(years, depth, place):
    """Tell the last lag that is known of the year at a place, of so many years."""
    return min(depth, years - 1 - place)


def knowing(wedge, things, lag):
    """Tell of things, one for each year, those whose year knows a lag."""
    # An elder year knows whatever a younger one knows, so they stand first.
    return things[:max(0, len(wedge) - lag)]


def cell_sum(wedge, lag):
    """Tell all known cells at a lag added."""
    return total([row[lag] for row in knowing(wedge, wedge.rows(), lag)])


def check_frame(first, depth, rows):
    """Refuse a first year, a depth or a number of years that no wedge has."""
    if not is_within(first, 0, MOST_FIRST) or not is_within(depth, 1, MOST_DEPTH):
        raise BadWedge(-1)
    if not isinstance(rows, list) or not 1 <= len(rows) <= MOST_YEARS:
        raise BadWedge(-1)


def check_rows(depth, rows):
    """Refuse the least row that isn't a list of as many parts as its year knows lags."""
    for place, row in enumerate(rows):
        if not is_row(row, last_known(len(rows), depth, place) + 1):
            raise BadWedge(place)


def is_row(row, many):
    """Tell of any thing whether it is a list of so many parts."""
    return isinstance(row, list) and len(row) == many and all([is_part(cell) for cell in row])


def check_adds(years, adds):
    """Refuse what so many years can't grow by."""
    if years == MOST_YEARS or not isinstance(adds, list) or len(adds) != years + 1:
        raise BadWedge(-1)
    for place, amount in enumerate(adds):
        if not is_part(amount):
            raise BadWedge(place)


def are_alike(one, other):
    """Tell whether two wedges have the same first year, depth and number of years."""
    return one.first == other.first and one.depth == other.depth and len(one) == len(other)


def running_sums(row):
    """Tell the sum of a row's cells up to each lag."""
    sums = []
    added = NOUGHT
    for cell in row:
        added = plus(added, cell)
        sums.append(added)
    return sums


def joined_row(mine, theirs):
    """Add two rows of the same length, cell by cell."""
    return [plus(one, other) for one, other in zip(mine, theirs)]


def grown_row(row, depth, amount):
    """Tell a row one year later."""
    if len(row) <= depth:
        return row + [amount]
    # The last lag stands for all later ones, so what comes behind it falls in the same cell.
    return row[:-1] + [plus(row[-1], amount)]


def shown_rows(rows):
    """Write rows as Python writes lists of tuples, with numbers of any size."""
    return "[" + ", ".join([shown_row(row) for row in rows]) + "]"


def shown_row(row):
    """Write a row as Python writes a list of tuples."""
    cells = [f"({shown_whole(top, 10)}, {shown_whole(bottom, 10)})" for top, bottom in row]
    return "[" + ", ".join(cells) + "]"


def shown_line(year, row):
    """Write a year and its cells for people."""
    return f"{year}:" + "".join([" " + shown_part(cell) for cell in row])
