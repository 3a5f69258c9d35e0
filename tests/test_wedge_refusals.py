"""Points 6 to 8: what wedges refuse, and in which order."""

import unittest

from lagwedge.errors import BadWedge, LagError, NoCell, Unlike
from lagwedge.wedge import Wedge
from tests.samples import MANY, NOT_PARTS, NOT_WHOLE, known_cells, sample_rows

SHAPES = [(depth, years) for depth in range(1, 7) for years in range(1, 11)]


class Refusing(unittest.TestCase):

    def refuses_row(self, row, call, *given):
        with self.assertRaises(BadWedge) as caught:
            call(*given)
        self.assertEqual(vars(caught.exception), {"word": "BadWedge", "row": row})
        self.assertIsInstance(caught.exception, LagError)

    def refuses_cell(self, year, lag, call, *given):
        with self.assertRaises(NoCell) as caught:
            call(*given)
        self.assertEqual(vars(caught.exception), {"word": "NoCell", "year": year, "lag": lag})
        self.assertEqual([type(caught.exception.year), type(caught.exception.lag)], [type(year), type(lag)])
        self.assertIsInstance(caught.exception, KeyError)
        self.assertNotIsInstance(caught.exception, LagError)


class BadFrames(Refusing):

    def test_first(self):
        for first in [-1, 10000, -MANY, MANY, *NOT_WHOLE]:
            self.refuses_row(-1, Wedge, first, 1, [[(1, 1)]])

    def test_depth(self):
        for depth in [0, 7, -1, -MANY, MANY, *NOT_WHOLE]:
            self.refuses_row(-1, Wedge, 2001, depth, [[(1, 1)]])

    def test_bounds_that_are_let(self):
        for first in (0, 9999):
            for depth in (1, 6):
                self.assertEqual(Wedge(first, depth, [[(1, 1)]]).look, first)

    def test_rows_that_are_no_list(self):
        row = [(1, 1)]
        for rows in [None, True, 1, "", "x", (), (row,), {0: row}, {}, object(), [row].__iter__()]:
            self.refuses_row(-1, Wedge, 2001, 1, rows)

    def test_number_of_rows(self):
        self.refuses_row(-1, Wedge, 2001, 1, [])
        self.refuses_row(-1, Wedge, 2001, 1, sample_rows(11, 1))
        self.refuses_row(-1, Wedge, 2001, 6, sample_rows(11, 6))
        self.refuses_row(-1, Wedge, 2001, 1, [None] * 11)

    def test_frame_goes_ahead_of_rows(self):
        self.refuses_row(-1, Wedge, 10000, 1, [None])
        self.refuses_row(-1, Wedge, 2001, 7, [None])
        self.refuses_row(-1, Wedge, True, 1, [[(True, 1)]])


class BadRows(Refusing):

    def test_row_too_short_or_too_long(self):
        for depth, years in SHAPES:
            for place in range(years):
                rows = sample_rows(years, depth)
                rows[place].pop()
                self.refuses_row(place, Wedge, 2001, depth, rows)
                rows[place].extend([(1, 1), (1, 1)])
                self.refuses_row(place, Wedge, 2001, depth, rows)

    def test_row_that_is_no_list(self):
        for wrong in [None, True, 1, "", "xx", (), ((1, 1), (1, 1)), {}, {0: (1, 1), 1: (1, 1)}, object()]:
            for place in range(3):
                rows = sample_rows(3, 1)
                rows[place] = wrong
                self.refuses_row(place, Wedge, 2001, 1, rows)

    def test_cell_that_is_no_part(self):
        for wrong in NOT_PARTS:
            for place in range(4):
                for lag in range(known_cells(4, 2, place)):
                    rows = sample_rows(4, 2)
                    rows[place][lag] = wrong
                    self.refuses_row(place, Wedge, 2001, 2, rows)

    def test_the_least_bad_row(self):
        rows = sample_rows(5, 3)
        rows[4] = None
        self.refuses_row(4, Wedge, 2001, 3, rows)
        rows[3].append((1, 1))
        self.refuses_row(3, Wedge, 2001, 3, rows)
        rows[1][2] = (2, 4)
        self.refuses_row(1, Wedge, 2001, 3, rows)
        rows[0] = tuple(rows[0])
        self.refuses_row(0, Wedge, 2001, 3, rows)

    def test_nothing_is_changed(self):
        rows = [[(1, 1), (2, 1)], [(2, 4)]]
        self.refuses_row(1, Wedge, 2001, 1, rows)
        self.assertEqual(rows, [[(1, 1), (2, 1)], [(2, 4)]])


class NoCells(Refusing):

    def setUp(self):
        self.wedge = Wedge(1, 2, sample_rows(4, 2))

    def test_known_of_no_year(self):
        for year in [0, -1, 5, 2001, MANY, -MANY, *NOT_WHOLE]:
            self.refuses_cell(year, 0, self.wedge.known, year)

    def test_cell_of_no_year(self):
        for year in [0, -1, 5, 2001, MANY, -MANY, *NOT_WHOLE]:
            for lag in (0, 1, -1, None):
                self.refuses_cell(year, lag, self.wedge.cell, year, lag)

    def test_cell_of_no_lag(self):
        for year in (1, 2, 3, 4):
            for lag in [self.wedge.known(year) + 1, 3, 7, -1, -2, MANY, -MANY, *NOT_WHOLE]:
                self.refuses_cell(year, lag, self.wedge.cell, year, lag)

    def test_last_known_lag_and_the_one_behind(self):
        for depth, years in SHAPES:
            wedge = Wedge(9999, depth, sample_rows(years, depth))
            for place, year in enumerate(wedge.years()):
                last = known_cells(years, depth, place) - 1
                self.assertEqual(wedge.cell(year, last), wedge.rows()[place][-1])
                self.refuses_cell(year, last + 1, wedge.cell, year, last + 1)
                self.refuses_cell(year, last + 1, wedge.changed, year, last + 1, (1, 1))
            self.refuses_cell(wedge.look + 1, 0, wedge.known, wedge.look + 1)
            self.refuses_cell(9998, 0, wedge.known, 9998)

    def test_changed(self):
        before = repr(self.wedge)
        for year in [0, 5, MANY, *NOT_WHOLE]:
            self.refuses_cell(year, 0, self.wedge.changed, year, 0, (1, 1))
        for lag in [2, 3, -1, MANY, *NOT_WHOLE]:
            self.refuses_cell(3, lag, self.wedge.changed, 3, lag, (1, 1))
        self.assertEqual(repr(self.wedge), before)


class Unalike(Refusing):

    def refuses_other(self, other):
        wedge = Wedge(2001, 2, sample_rows(3, 2))
        for one, two in ((wedge, other), (other, wedge)):
            shown = (repr(one), repr(two))
            with self.assertRaises(Unlike) as caught:
                one.joined(two)
            self.assertEqual(vars(caught.exception), {"word": "Unlike"})
            self.assertIsInstance(caught.exception, LagError)
            self.assertEqual((repr(one), repr(two)), shown)

    def test_first_year(self):
        self.refuses_other(Wedge(2002, 2, sample_rows(3, 2)))

    def test_depth(self):
        # With three years, depths 2 and 3 have the very same cells.
        self.refuses_other(Wedge(2001, 3, sample_rows(3, 3)))
        self.refuses_other(Wedge(2001, 1, sample_rows(3, 1)))

    def test_number_of_years(self):
        self.refuses_other(Wedge(2001, 2, sample_rows(2, 2)))
        self.refuses_other(Wedge(2001, 2, sample_rows(4, 2)))


class BadGrowth(Refusing):

    def test_ten_years_already(self):
        for depth in (1, 6):
            wedge = Wedge(2001, depth, sample_rows(10, depth))
            self.refuses_row(-1, wedge.grown, [(1, 1)] * 11)
            self.refuses_row(-1, wedge.grown, [None] * 11)
            self.refuses_row(-1, wedge.grown, [])

    def test_nine_years(self):
        wedge = Wedge(2001, 6, sample_rows(9, 6))
        self.assertEqual(len(wedge.grown([(1, 1)] * 10)), 10)

    def test_adds_that_are_no_list(self):
        wedge = Wedge(2001, 1, sample_rows(2, 1))
        for adds in [None, True, 3, "xyz", ((1, 1), (1, 1), (1, 1)), {0: (1, 1), 1: (1, 1), 2: (1, 1)}, object()]:
            self.refuses_row(-1, wedge.grown, adds)

    def test_adds_of_another_length(self):
        for years in range(1, 10):
            wedge = Wedge(2001, 2, sample_rows(years, 2))
            for many in (0, 1, years - 1, years, years + 2, 20):
                if many != years + 1:
                    self.refuses_row(-1, wedge.grown, [(1, 1)] * many)
                    self.refuses_row(-1, wedge.grown, [None] * many)

    def test_adds_that_are_no_parts(self):
        wedge = Wedge(2001, 1, sample_rows(3, 1))
        before = repr(wedge)
        for wrong in NOT_PARTS:
            for place in range(4):
                adds = [(1, 1)] * 4
                adds[place] = wrong
                self.refuses_row(place, wedge.grown, adds)
        self.assertEqual(repr(wedge), before)

    def test_the_least_place(self):
        wedge = Wedge(2001, 1, sample_rows(3, 1))
        self.refuses_row(3, wedge.grown, [(1, 1), (1, 1), (1, 1), (2, 2)])
        self.refuses_row(2, wedge.grown, [(1, 1), (1, 1), [1, 1], (2, 2)])
        self.refuses_row(1, wedge.grown, [(1, 1), (1, True), [1, 1], (2, 2)])
        self.refuses_row(0, wedge.grown, [None, None, None, None])
