"""A wedge and its developed table, kept together while cells are moved and years are added."""

from lagwedge.developed import developed
from lagwedge.errors import NothingBack
from lagwedge.ladder import factors
from lagwedge.parts import NOUGHT, minus, times
from lagwedge.reach import reach


class Keeper:
    """A wedge, its developed table, and how many places of it were reckoned anew so far."""

    def __init__(self, wedge):
        self.reckoned = developed(wedge)
        self.wedge = wedge
        self.moves = []
        self.anew = 0

    def table(self):
        """Tell the developed table."""
        return [list(row) for row in self.reckoned]

    def tops(self):
        """Tell the ends."""
        return [row[-1] for row in self.reckoned]

    def now(self):
        """Tell the wedge as it stands."""
        return self.wedge

    def move(self, year, lag, amount):
        """Add a part to a known cell, and tell how many places hang on it."""
        places = self.turn(year, lag, amount)
        self.moves.append((year, lag, amount))
        return places

    def take_back(self):
        """Undo the last move that isn't undone yet, and tell how many places hang on its cell."""
        if len(self.moves) == 0:
            raise NothingBack()
        year, lag, amount = self.moves.pop()
        # Behind this move the wedge is one that was developed before, so no factor is missing.
        return self.turn(year, lag, minus(NOUGHT, amount))

    def grow(self, adds):
        """Go one year on, and tell how many places the new table has."""
        wedge = self.wedge.grown(adds)
        self.reckoned = developed(wedge)
        self.wedge = wedge
        self.moves = []
        places = len(wedge) * (wedge.depth + 1)
        self.anew += places
        return places

    def turn(self, year, lag, amount):
        """Add a part to a known cell, reckon anew what hangs on it, and tell how many places that is."""
        wedge = self.wedge.changed(year, lag, amount)
        places = reach(len(wedge), wedge.depth, year - wedge.first, lag)
        self.reckoned = reckoned_anew(wedge, self.reckoned, places)
        self.wedge = wedge
        self.anew += len(places)
        return len(places)


def reckoned_anew(wedge, table, places):
    """Tell a developed table with these places, which are sorted, reckoned anew by a wedge."""
    leading = factors(wedge)
    sums = wedge.sums()
    turned = [list(row) for row in table]
    for row, lag in places:
        if lag < len(sums[row]):
            turned[row][lag] = sums[row][lag]
        else:
            turned[row][lag] = times(turned[row][lag - 1], leading[lag - 1])
    return turned
