"""Points 5 to 9: what wedges are and tell."""

import unittest
from fractions import Fraction

from lagwedge.wedge import Wedge
from tests.samples import as_rows, known_cells, pair, sample_fractions, sample_rows

SHAPES = [(first, depth, years) for first in (0, 2001, 9999) for depth in range(1, 7) for years in range(1, 11)]


def sample(years, depth, *, first=2001, salt=0):
    return Wedge(first, depth, sample_rows(years, depth, salt))


class TheFrame(unittest.TestCase):

    def test_every_shape(self):
        for first, depth, years in SHAPES:
            rows = sample_rows(years, depth)
            wedge = Wedge(first, depth, rows)
            self.assertEqual((wedge.first, wedge.depth, wedge.look), (first, depth, first + years - 1))
            self.assertEqual(wedge.years(), list(range(first, first + years)))
            self.assertEqual(wedge.rows(), rows)
            self.assertEqual(len(wedge), years)

    def test_more_lags_than_years(self):
        wedge = Wedge(2001, 6, [[(1, 1), (2, 1), (3, 1)], [(4, 1), (5, 1)], [(6, 1)]])
        self.assertEqual([wedge.known(year) for year in wedge.years()], [2, 1, 0])

    def test_more_years_than_lags(self):
        wedge = Wedge(2001, 1, [[(1, 1), (2, 1)], [(3, 1), (4, 1)], [(5, 1), (6, 1)], [(7, 1)]])
        self.assertEqual([wedge.known(year) for year in wedge.years()], [1, 1, 1, 0])

    def test_years_beyond_the_last_first_year(self):
        wedge = sample(10, 2, first=9999)
        self.assertEqual(wedge.look, 10008)
        self.assertEqual(wedge.years()[-1], 10008)
        self.assertEqual(wedge.known(10008), 0)

    def test_by_name(self):
        wedge = Wedge(rows=[[(1, 2)]], depth=6, first=0)
        self.assertEqual((wedge.first, wedge.depth, wedge.look, wedge.rows()), (0, 6, 0, [[(1, 2)]]))

    def test_cells_of_many_figures(self):
        cell = (10 ** 399, 10 ** 399 + 1)
        wedge = Wedge(1, 1, [[cell]])
        self.assertEqual(wedge.cell(1, 0), cell)
        self.assertEqual(wedge.scaled(cell).cell(1, 0), (10 ** 798, (10 ** 399 + 1) ** 2))


class Asking(unittest.TestCase):

    def test_known_and_cell(self):
        for first, depth, years in SHAPES:
            rows = sample_rows(years, depth)
            wedge = Wedge(first, depth, rows)
            for place, year in enumerate(range(first, first + years)):
                last = known_cells(years, depth, place) - 1
                self.assertEqual(wedge.known(year), last)
                self.assertEqual([wedge.cell(year, lag) for lag in range(last + 1)], rows[place])

    def test_sums(self):
        for first, depth, years in SHAPES:
            cells = sample_fractions(years, depth)
            wedge = Wedge(first, depth, as_rows(cells))
            sums = [[pair(sum(row[:lag + 1])) for lag in range(len(row))] for row in cells]
            self.assertEqual(wedge.sums(), sums)
            self.assertEqual(wedge.latest(), [row[-1] for row in sums])
            self.assertEqual(wedge.whole_sum(), pair(sum([sum(row, Fraction(0)) for row in cells])))

    def test_sums_by_hand(self):
        wedge = Wedge(2001, 2, [[(1, 2), (1, 3), (-5, 6)], [(4, 1), (-9, 2)], [(0, 1)]])
        self.assertEqual(wedge.sums(), [[(1, 2), (5, 6), (0, 1)], [(4, 1), (-1, 2)], [(0, 1)]])
        self.assertEqual(wedge.latest(), [(0, 1), (-1, 2), (0, 1)])
        self.assertEqual(wedge.whole_sum(), (-1, 2))

    def test_by_name(self):
        wedge = sample(3, 2)
        self.assertEqual(wedge.known(year=2002), 1)
        self.assertEqual(wedge.cell(lag=1, year=2002), wedge.cell(2002, 1))


class NewWedges(unittest.TestCase):

    def test_changed(self):
        for years, depth in [(1, 1), (1, 6), (3, 2), (4, 6), (10, 1), (10, 6)]:
            for place in range(years):
                for lag in range(known_cells(years, depth, place)):
                    cells = sample_fractions(years, depth)
                    told = Wedge(7, depth, as_rows(cells)).changed(7 + place, lag, (-5, 7))
                    cells[place][lag] += Fraction(-5, 7)
                    self.assertEqual(told, Wedge(7, depth, as_rows(cells)))

    def test_joined(self):
        for first, depth, years in SHAPES:
            ones, others = sample_fractions(years, depth), sample_fractions(years, depth, 4)
            told = Wedge(first, depth, as_rows(ones)).joined(Wedge(first, depth, as_rows(others)))
            self.assertEqual((told.first, told.depth, told.look), (first, depth, first + years - 1))
            self.assertEqual(told.rows(), [[pair(one + other) for one, other in zip(*rows)] for rows in zip(ones, others)])

    def test_scaled(self):
        for first, depth, years in SHAPES:
            for amount in (Fraction(0), Fraction(-3, 4), Fraction(1)):
                cells = sample_fractions(years, depth)
                told = Wedge(first, depth, as_rows(cells)).scaled(pair(amount))
                self.assertEqual((told.first, told.depth, told.look), (first, depth, first + years - 1))
                self.assertEqual(told.rows(), [[pair(cell * amount) for cell in row] for row in cells])

    def test_grown(self):
        for first, depth, years in SHAPES:
            if years == 10:
                continue
            cells = sample_fractions(years, depth)
            adds = [Fraction(place - 2, place + 1) for place in range(years + 1)]
            told = Wedge(first, depth, as_rows(cells)).grown([pair(amount) for amount in adds])
            for row, amount in zip(cells, adds):
                if len(row) == depth + 1:
                    row[-1] += amount
                else:
                    row.append(amount)
            self.assertEqual(told, Wedge(first, depth, as_rows(cells + [[adds[-1]]])))
            self.assertEqual(told.look, first + years)

    def test_grown_by_hand(self):
        wedge = Wedge(2001, 1, [[(1, 1), (2, 1)], [(3, 1)]])
        told = wedge.grown([(1, 2), (1, 3), (1, 5)])
        self.assertEqual(told.rows(), [[(1, 1), (5, 2)], [(3, 1), (1, 3)], [(1, 5)]])

    def test_grown_from_one_year_to_ten(self):
        wedge = Wedge(0, 6, [[(1, 1)]])
        for years in range(1, 10):
            wedge = wedge.grown([(1, 1)] * (years + 1))
        self.assertEqual(wedge.rows(), [
            [(1, 1)] * 6 + [(4, 1)], [(1, 1)] * 6 + [(3, 1)], [(1, 1)] * 6 + [(2, 1)], [(1, 1)] * 7,
            [(1, 1)] * 6, [(1, 1)] * 5, [(1, 1)] * 4, [(1, 1)] * 3, [(1, 1)] * 2, [(1, 1)]])

    def test_by_name(self):
        wedge = Wedge(1, 1, [[(2, 1)]])
        self.assertEqual(wedge.changed(amount=(1, 1), lag=0, year=1).rows(), [[(3, 1)]])
        self.assertEqual(wedge.joined(other=wedge).rows(), [[(4, 1)]])
        self.assertEqual(wedge.scaled(amount=(3, 1)).rows(), [[(6, 1)]])
        self.assertEqual(wedge.grown(adds=[(3, 1), (4, 1)]).rows(), [[(2, 1), (3, 1)], [(4, 1)]])


class EqualToEverything:

    def __eq__(self, other):
        return True


class Same(unittest.TestCase):

    def test_equal(self):
        for first, depth, years in SHAPES:
            one, other = sample(years, depth, first=first), sample(years, depth, first=first)
            self.assertIs(one == other, True)
            self.assertIs(one != other, False)

    def test_unequal(self):
        wedge = Wedge(2001, 2, [[(1, 1), (2, 1)], [(3, 1)]])
        for other in [
            Wedge(2002, 2, [[(1, 1), (2, 1)], [(3, 1)]]),
            Wedge(2001, 1, [[(1, 1), (2, 1)], [(3, 1)]]),
            Wedge(2001, 2, [[(1, 1), (2, 1)], [(4, 1)]]),
            Wedge(2001, 2, [[(1, 1), (1, 2)], [(3, 1)]]),
            Wedge(2001, 2, [[(1, 1)]]),
        ]:
            self.assertIs(wedge == other, False)
            self.assertIs(wedge != other, True)

    def test_nothing_else(self):
        wedge = Wedge(2001, 1, [[(1, 1)]])
        for thing in [None, 1, True, "", [[(1, 1)]], (2001, 1, [[(1, 1)]]), repr(wedge), str(wedge), EqualToEverything()]:
            self.assertIs(wedge == thing, False)


class Writing(unittest.TestCase):

    def test_repr(self):
        wedge = Wedge(2001, 1, [[(5, 1), (1, 2)], [(4, 1)]])
        self.assertEqual(repr(wedge), "Wedge(first=2001, depth=1, rows=[[(5, 1), (1, 2)], [(4, 1)]])")

    def test_repr_of_greater_numbers(self):
        wedge = Wedge(0, 6, [[(-1234567890, 987654323), (10, 11), (0, 1)], [(-10, 9), (16, 1)], [(255, 1024)]])
        self.assertEqual(repr(wedge), "Wedge(first=0, depth=6, rows=[[(-1234567890, 987654323), (10, 11), (0, 1)], "
                                      "[(-10, 9), (16, 1)], [(255, 1024)]])")

    def test_repr_of_every_shape(self):
        for first, depth, years in SHAPES:
            rows = sample_rows(years, depth)
            wedge = Wedge(first, depth, rows)
            self.assertEqual(repr(wedge), f"Wedge(first={first}, depth={depth}, rows={rows!r})")
            self.assertEqual(eval(repr(wedge)), wedge)

    def test_str(self):
        wedge = Wedge(2001, 1, [[(5, 1), (1, 2)], [(4, 1)]])
        self.assertEqual(str(wedge), "2001: 5 1/2\n2002: 4")

    def test_str_of_one_year(self):
        self.assertEqual(str(Wedge(0, 6, [[(0, 1)]])), "0: 0")

    def test_str_below_nought(self):
        wedge = Wedge(9999, 1, [[(-5, 3), (-7, 1)], [(-1, 2)]])
        self.assertEqual(str(wedge), "9999: -5/3 -7\n10000: -1/2")

    def test_cells_of_more_figures_than_python_writes(self):
        cell = (10 ** 399, 10 ** 399 - 1)
        wedge = Wedge(1, 1, [[cell]])
        for _ in range(4):
            wedge = wedge.scaled(wedge.cell(1, 0))
        top, bottom = wedge.cell(1, 0)
        self.assertEqual(top, 10 ** (399 * 16))
        figures = "1" + "0" * (399 * 16)
        self.assertTrue(str(wedge).startswith(f"1: {figures}/"))
        self.assertTrue(repr(wedge).startswith(f"Wedge(first=1, depth=1, rows=[[({figures}, "))


class NothingKept(unittest.TestCase):
    """Point 2: what is handed in is neither changed nor kept, and what is told is made anew."""

    def setUp(self):
        self.wedge = sample(4, 2)
        self.before = (repr(self.wedge), self.wedge.sums(), self.wedge.latest(), self.wedge.whole_sum())

    def check_wedge_stays(self):
        self.assertEqual((repr(self.wedge), self.wedge.sums(), self.wedge.latest(), self.wedge.whole_sum()), self.before)
        self.assertEqual(self.wedge.years(), [2001, 2002, 2003, 2004])
        self.assertEqual(len(self.wedge), 4)
        self.assertEqual(self.wedge, sample(4, 2))

    def test_rows_handed_in(self):
        rows = sample_rows(4, 2)
        self.wedge = Wedge(2001, 2, rows)
        self.assertEqual(rows, sample_rows(4, 2))
        rows[0][0] = (99, 1)
        rows[1].append((99, 1))
        rows.append([(99, 1)])
        self.check_wedge_stays()

    def test_one_row_handed_in_for_two_years(self):
        row = [(1, 1), (2, 1)]
        wedge = Wedge(1, 1, [row, row, [(1, 1)]])
        self.assertEqual(wedge.changed(1, 0, (1, 1)).rows(), [[(2, 1), (2, 1)], [(1, 1), (2, 1)], [(1, 1)]])

    def test_lists_told(self):
        for told in (self.wedge.rows(), self.wedge.sums()):
            told[0][0] = (99, 1)
            told[1].append((99, 1))
            told.clear()
        for told in (self.wedge.latest(), self.wedge.years()):
            told[0] = 99
            told.append(99)
        self.check_wedge_stays()

    def test_lists_told_by_new_wedges(self):
        for told in (self.wedge.changed(2001, 0, (1, 1)), self.wedge.joined(self.wedge), self.wedge.scaled((1, 1)),
                     self.wedge.grown([(1, 1)] * 5)):
            told.rows()[0][0] = (99, 1)
            told.cells[1][0] = (99, 1)
        self.check_wedge_stays()

    def test_adds_handed_in(self):
        adds = [(1, 1), (1, 2), (1, 3), (1, 4), (1, 5)]
        told = self.wedge.grown(adds)
        self.assertEqual(adds, [(1, 1), (1, 2), (1, 3), (1, 4), (1, 5)])
        shown = repr(told)
        adds[4] = (99, 1)
        adds.clear()
        self.assertEqual(repr(told), shown)
        self.check_wedge_stays()

    def test_no_wedge_is_changed(self):
        other = sample(4, 2, salt=3)
        self.wedge.changed(2001, 1, (5, 1))
        self.wedge.joined(other)
        self.wedge.scaled((5, 1))
        self.wedge.grown([(5, 1)] * 5)
        self.assertEqual(other, sample(4, 2, salt=3))
        self.check_wedge_stays()
