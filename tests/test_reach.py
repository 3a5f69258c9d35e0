"""Point 28: last known lags, and which developed sums hang on which known cells."""

from lagwedge.developed import developed
from lagwedge.errors import BadWedge, NoCell
from lagwedge.reach import last_lag, reach
from lagwedge.wedge import Wedge
from tests.cases import Case
from tests.samples import MANY, NOT_WHOLE, growing_wedges, known_cells, sample_rows

SHAPES = [(years, depth) for years in range(1, 11) for depth in range(1, 7)]
BAD_YEARS = [0, -1, 11, MANY, -MANY, *NOT_WHOLE]
BAD_DEPTHS = [0, -1, 7, MANY, -MANY, *NOT_WHOLE]


def known_places(years, depth):
    return [(row, lag) for row in range(years) for lag in range(known_cells(years, depth, row))]


def hung_plainly(years, depth, cell):
    """The places that hang on a cell, by following every sum to all cells that it is made of."""
    lasts = [known_cells(years, depth, row) - 1 for row in range(years)]

    def cells_of_sum(row, lag):
        return {(row, ahead) for ahead in range(lag + 1)}

    def cells_of_factor(step):
        found = set()
        for row, last in enumerate(lasts):
            if last > step:
                found |= cells_of_sum(row, step) | cells_of_sum(row, step + 1)
        return found

    def cells_of_developed(row, lag):
        if lag <= lasts[row]:
            return cells_of_sum(row, lag)
        return cells_of_developed(row, lag - 1) | cells_of_factor(lag - 1)

    places = [(row, lag) for row in range(years) for lag in range(depth + 1)]
    return [place for place in places if cell in cells_of_developed(*place)]


class LastLags(Case):

    def test_some(self):
        self.assertEqual([last_lag(3, 2, row) for row in range(3)], [2, 1, 0])
        self.assertEqual([last_lag(2, 6, row) for row in range(2)], [1, 0])
        self.assertEqual([last_lag(5, 1, row) for row in range(5)], [1, 1, 1, 1, 0])
        self.assertEqual(last_lag(row=0, years=10, depth=6), 6)

    def test_every_shape(self):
        for years, depth in SHAPES:
            wedge = Wedge(2001, depth, sample_rows(years, depth))
            told = [last_lag(years, depth, row) for row in range(years)]
            self.assertEqual(told, [wedge.known(year) for year in wedge.years()])


class Reaching(Case):

    def test_small_shape(self):
        told = {cell: reach(3, 2, *cell) for cell in known_places(3, 2)}
        self.assertEqual(told, {
            (0, 0): [(0, 0), (0, 1), (0, 2), (1, 2), (2, 1), (2, 2)],
            (0, 1): [(0, 1), (0, 2), (1, 2), (2, 1), (2, 2)],
            (0, 2): [(0, 2), (1, 2), (2, 2)],
            (1, 0): [(1, 0), (1, 1), (1, 2), (2, 1), (2, 2)],
            (1, 1): [(1, 1), (1, 2), (2, 1), (2, 2)],
            (2, 0): [(2, 0), (2, 1), (2, 2)],
        })

    def test_one_year_alone(self):
        for depth in range(1, 7):
            self.assertEqual(reach(1, depth, 0, 0), [(0, lag) for lag in range(depth + 1)])

    def test_fewer_years_than_lags(self):
        self.assertEqual(reach(2, 3, 0, 0), [(0, 0), (0, 1), (0, 2), (0, 3), (1, 1), (1, 2), (1, 3)])
        self.assertEqual(reach(2, 3, 1, 0), [(1, 0), (1, 1), (1, 2), (1, 3)])

    def test_more_years_than_lags(self):
        self.assertEqual(reach(4, 1, 1, 1), [(1, 1), (3, 1)])
        self.assertEqual(reach(years=4, depth=1, row=1, lag=0), [(1, 0), (1, 1), (3, 1)])

    def test_every_known_cell_of_every_shape(self):
        for years, depth in SHAPES:
            for cell in known_places(years, depth):
                self.assertEqual(reach(years, depth, *cell), hung_plainly(years, depth, cell), (years, depth, cell))

    def test_sorted_and_told_anew(self):
        for years, depth in SHAPES:
            for cell in known_places(years, depth):
                told = reach(years, depth, *cell)
                self.assertEqual(told, sorted(told))
        self.leaves_all_alone(reach, 5, 3, 1, 2)

    def test_no_other_sum_turns(self):
        turned = 0
        for wedge in growing_wedges():
            years, depth = len(wedge), wedge.depth
            before = developed(wedge)
            for row, lag in known_places(years, depth)[::2]:
                after = developed(wedge.changed(wedge.first + row, lag, (2, 7)))
                places = [(other, at) for other in range(years) for at in range(depth + 1)
                          if before[other][at] != after[other][at]]
                self.assertEqual([place for place in places if place not in reach(years, depth, row, lag)], [])
                turned += len(places)
        self.assertGreater(turned, 1000)

    def test_in_a_wedge_without_chances_all_of_them_turn(self):
        rows = [[(101, 1), (53, 1), (31, 1)], [(97, 1), (61, 1), (17, 1)], [(89, 1), (43, 1)], [(71, 1)]]
        wedge = Wedge(2001, 2, rows)
        before = developed(wedge)
        for row, lag in known_places(4, 2):
            after = developed(wedge.changed(2001 + row, lag, (7, 13)))
            places = [(other, at) for other in range(4) for at in range(3) if before[other][at] != after[other][at]]
            self.assertEqual(places, reach(4, 2, row, lag))


class Refused(Case):

    def test_years(self):
        for years in BAD_YEARS:
            self.refuses(BadWedge, {"row": -1}, last_lag, years, 2, 0)
            self.refuses(BadWedge, {"row": -1}, reach, years, 2, 0, 0)

    def test_depth(self):
        for depth in BAD_DEPTHS:
            self.refuses(BadWedge, {"row": -1}, last_lag, 2, depth, 0)
            self.refuses(BadWedge, {"row": -1}, reach, 2, depth, 0, 0)

    def test_bounds_that_are_let(self):
        for years, depth in ((1, 1), (1, 6), (10, 1), (10, 6)):
            self.assertEqual(last_lag(years, depth, years - 1), 0)
            self.assertEqual(reach(years, depth, years - 1, 0), [(years - 1, lag) for lag in range(depth + 1)])

    def test_shape_goes_ahead_of_the_cell(self):
        for row in (-1, 99, None, True):
            self.refuses(BadWedge, {"row": -1}, last_lag, 0, 2, row)
            self.refuses(BadWedge, {"row": -1}, last_lag, 2, 7, row)
            self.refuses(BadWedge, {"row": -1}, reach, 11, 2, row, row)
            self.refuses(BadWedge, {"row": -1}, reach, 2, True, row, row)

    def test_row_of_last_lag(self):
        for years, depth in SHAPES:
            for row in [-1, years, years + 1, MANY, -MANY, *NOT_WHOLE]:
                self.refuses(NoCell, {"year": row, "lag": 0}, last_lag, years, depth, row)

    def test_row_of_reach(self):
        for years, depth in SHAPES:
            for row in [-1, years, years + 1, MANY, -MANY, *NOT_WHOLE]:
                for lag in (0, 1, -1, None):
                    self.refuses(NoCell, {"year": row, "lag": lag}, reach, years, depth, row, lag)

    def test_lag_of_reach(self):
        for years, depth in SHAPES:
            for row in range(years):
                for lag in [-1, known_cells(years, depth, row), 7, MANY, -MANY, *NOT_WHOLE]:
                    self.refuses(NoCell, {"year": row, "lag": lag}, reach, years, depth, row, lag)
