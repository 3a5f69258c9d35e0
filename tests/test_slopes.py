"""Points 30 and 31: how much what is still to come hangs on each cell, and how two developed tables differ."""

from fractions import Fraction
from itertools import accumulate

from lagwedge.developed import developed, ends, still_sum
from lagwedge.errors import NoFactor, Unlike
from lagwedge.ladder import steps
from lagwedge.parts import minus, times, total
from lagwedge.slopes import gap, slopes
from lagwedge.wedge import Wedge
from tests.cases import Case, spoil
from tests.plainly import developed_of, factors_of
from tests.samples import all_wedges, as_fractions, as_rows, growing_wedges, known_cells, pair, pairs, wedge_of_cells

PLAIN = wedge_of_cells(2001, 2, [[4, 2, 3], [6, 3, 9], [10, 1], [5]])


class Leaning:
    """A number, and how much it grows by a small amount in one cell."""

    def __init__(self, worth, slope=0):
        self.worth, self.slope = Fraction(worth), Fraction(slope)

    def __add__(self, other):
        return Leaning(self.worth + other.worth, self.slope + other.slope)

    def __mul__(self, other):
        return Leaning(self.worth * other.worth, self.slope * other.worth + self.worth * other.slope)

    def __truediv__(self, other):
        return Leaning(self.worth / other.worth,
                       (self.slope * other.worth - self.worth * other.slope) / (other.worth * other.worth))


def slope_plainly(wedge, place, lag):
    """The slope of one cell, by the rules for sums, products and quotients alone."""
    cells = [[Leaning(cell, (row, at) == (place, lag)) for at, cell in enumerate(cells)]
             for row, cells in enumerate(as_fractions(wedge.rows()))]
    sums = [list(accumulate(row)) for row in cells]
    for step in range(wedge.depth):
        counted = [row for row, known in zip(sums, cells) if len(known) > step + 1]
        below = sum([row[step] for row in counted], Leaning(0))
        above = sum([row[step + 1] for row in counted], Leaning(0))
        factor = above / below if below.worth != 0 else Leaning(1)
        for row in sums:
            if len(row) == step + 1:
                row.append(row[-1] * factor)
    return sum(row[-1].slope for row in sums) - sum(known.slope for row in cells for known in row)


def slopes_plainly(wedge):
    return [[pair(slope_plainly(wedge, place, lag)) for lag in range(len(row))]
            for place, row in enumerate(wedge.rows())]


def sloping():
    """Wedges that have factors at all steps."""
    return [wedge for wedge in growing_wedges() + all_wedges() if isinstance(factors_of(wedge), list)]


def grown_by(wedge, place, lag, amount):
    """How much the sum still to come grows by an amount in a cell, over that amount."""
    later = wedge.changed(wedge.first + place, lag, pair(amount))
    return (Fraction(*still_sum(later)) - Fraction(*still_sum(wedge))) / amount


class Slopes(Case):

    def test_plain(self):
        wedge = wedge_of_cells(2001, 1, [[4, 6], [10]])
        # Still to come are 10 * (a + b) / a - 10 with a = 4 and b = 6, that is 10 * b / a.
        self.assertEqual(slopes(wedge), [[(-15, 4), (5, 2)], [(3, 2)]])

    def test_a_deeper_one(self):
        wedge = wedge_of_cells(2001, 2, [[4, 2, 3], [10, 1], [5]])
        # With a, b, c and d, e and f the factors are (a+b+d+e)/(a+d) and (a+b+c)/(a+b).
        # Still to come are (d+e) * (g - 1) and f * (h * g - 1) with h = 17/14 and g = 3/2.
        g, h = Fraction(3, 2), Fraction(17, 14)
        by_h = Fraction(5) * g
        by_g = Fraction(11) + 5 * h
        expected = [
            [by_h * (1 - h) / 14 + by_g * (1 - g) / 6, by_h / 14 + by_g * (1 - g) / 6, by_g / 6],
            [g - 1 + by_h * (1 - h) / 14, g - 1 + by_h / 14],
            [h * g - 1],
        ]
        self.assertEqual(slopes(wedge), [pairs(row) for row in expected])

    def test_one_year(self):
        for depth in range(1, 7):
            self.assertEqual(slopes(wedge_of_cells(2001, depth, [[7]])), [[(0, 1)]])

    def test_against_plain_rules(self):
        seen = set()
        for wedge in sloping():
            self.assertEqual(slopes(wedge), slopes_plainly(wedge), wedge)
            seen.add((wedge.depth, len(wedge)))
        self.assertTrue({(1, 1), (1, 10), (6, 1), (6, 10)} <= seen)

    def test_against_changes_where_they_are_straight(self):
        # A year's newest cell is in one factor's above, in no below and in no other sum it is taken times.
        count = 0
        for wedge in sloping():
            kinds = [step[0] for step in steps(wedge)]
            for place, row in enumerate(slopes(wedge)):
                lag = len(row) - 1
                if lag == 0 or kinds[lag - 1] == "one":
                    changes = [Fraction(1, 3), Fraction(-2, 7), Fraction(11)]
                    later = [wedge.changed(wedge.first + place, lag, pair(amount)) for amount in changes]
                    for amount in [amount for amount, held in zip(changes, later) if same_kinds(held, kinds)]:
                        self.assertEqual(pair(grown_by(wedge, place, lag, amount)), row[lag])
                        count += 1
        self.assertGreater(count, 1000)

    def test_against_smaller_and_smaller_changes(self):
        for wedge in growing_wedges()[::3]:
            for place, row in enumerate(slopes(wedge)):
                for lag, slope in enumerate(row):
                    wide = grown_by(wedge, place, lag, Fraction(1, 10 ** 9)) - Fraction(*slope)
                    near = grown_by(wedge, place, lag, Fraction(1, 10 ** 12)) - Fraction(*slope)
                    self.assertLess(abs(wide), Fraction(1, 10 ** 6))
                    self.assertLessEqual(abs(near), abs(wide) / 900)

    def test_all_cells_times_their_slopes(self):
        for wedge in sloping():
            added = total([times(cell, slope) for cells, found in zip(wedge.rows(), slopes(wedge))
                           for cell, slope in zip(cells, found)])
            self.assertEqual(added, still_sum(wedge))

    def test_as_lists_like_the_rows(self):
        for wedge in sloping():
            self.assertEqual([len(row) for row in slopes(wedge)], [len(row) for row in wedge.rows()])

    def test_bounds_of_depth_and_years(self):
        for depth in (1, 6):
            for years in (1, 10):
                cells = [[place + lag + 3 for lag in range(known_cells(years, depth, place))] for place in range(years)]
                wedge = wedge_of_cells(9999, depth, cells)
                self.assertEqual(slopes(wedge), slopes_plainly(wedge))

    def test_cells_of_many_figures(self):
        cells = [[10 ** 399 + 7, 3 ** 700, Fraction(1, 7 ** 400)], [Fraction(10 ** 399, 3 ** 700), 5], [10 ** 399 - 1]]
        wedge = wedge_of_cells(2001, 2, cells)
        self.assertEqual(slopes(wedge), slopes_plainly(wedge))
        cells = [[Fraction(10 ** 59 + 7 ** place, 3 ** (60 + lag) + place) for lag in range(known_cells(10, 6, place))]
                 for place in range(10)]
        wedge = wedge_of_cells(2001, 6, cells)
        told = slopes(wedge)
        for place, lag in ((0, 0), (3, 6), (5, 2), (9, 0)):
            self.assertEqual(told[place][lag], pair(slope_plainly(wedge, place, lag)))


class SlopesOfAnySteps(Case):

    def test_no_cell_is_in_a_factor_of_kind_any(self):
        wedge = wedge_of_cells(2001, 1, [[0, 0], [7]])
        self.assertEqual(slopes(wedge), [[(0, 1), (0, 1)], [(0, 1)]])
        wedge = wedge_of_cells(2001, 2, [[0, 0, 0], [0, 0], [7]])
        self.assertEqual(slopes(wedge), [[(0, 1)] * 3, [(0, 1)] * 2, [(0, 1)]])

    def test_any_beside_one(self):
        # The first step has kind one; the second leads from nought to nought.
        wedge = wedge_of_cells(2001, 2, [[4, -4, 0], [3, 5], [7]])
        self.assertEqual([step[0] for step in steps(wedge)], ["one", "any"])
        expected = [[Fraction(-1, 7), Fraction(1), Fraction(0)], [Fraction(-1, 7), Fraction(1)], [Fraction(1, 7)]]
        self.assertEqual(slopes(wedge), [pairs(row) for row in expected])

    def test_years_without_lags(self):
        wedge = wedge_of_cells(2001, 6, [[4, 2], [6]])
        self.assertEqual(slopes(wedge), [[(-3, 4), (3, 2)], [(1, 2)]])


class RefusedSlopes(Case):

    def test_no_factor(self):
        count = 0
        for wedge in all_wedges():
            step = factors_of(wedge)
            if not isinstance(step, list):
                _, below, above, _ = steps(wedge)[step]
                self.refuses(NoFactor, {"step": step, "below": below, "above": above}, slopes, wedge)
                count += 1
        self.assertGreater(count, 2)

    def test_nothing_is_changed(self):
        self.leaves_all_alone(slopes, PLAIN)
        wedge = wedge_of_cells(2001, 1, [[4, 6], [5, 5], [6, 4], [10]])
        told = slopes(wedge)
        spoil(told[0])
        self.assertEqual(told[1:], slopes(wedge)[1:])
        self.assertEqual([len(row) for row in slopes(wedge=wedge)], [2, 2, 2, 1])


class Gaps(Case):

    def test_plain(self):
        other = wedge_of_cells(2001, 2, [[4, 2, 3], [6, 3, 9], [10, 1], [6]])
        self.assertEqual(gap(PLAIN, PLAIN), [[(0, 1)] * 3] * 4)
        self.assertEqual(gap(other, PLAIN), [[(0, 1)] * 3] * 3 + [pairs([1, Fraction(3, 10), Fraction(26, 25)])])
        self.assertEqual(gap(one=PLAIN, other=other)[3], pairs([-1, Fraction(-3, 10), Fraction(-26, 25)]))

    def test_against_developed_cells(self):
        shaped = {}
        for wedge in sloping():
            shaped.setdefault((wedge.first, wedge.depth, len(wedge)), []).append(wedge)
        count = 0
        for alike in shaped.values():
            for one in alike:
                for other in alike:
                    tables = [developed_of(wedge, factors_of(wedge)) for wedge in (one, other)]
                    cells = [[[row[0]] + [behind - ahead for ahead, behind in zip(row, row[1:])] for row in table]
                             for table in tables]
                    expected = [[mine - theirs for mine, theirs in zip(*rows)] for rows in zip(*cells)]
                    self.assertEqual(gap(one, other), as_rows(expected))
                    self.assertEqual([total(row) for row in gap(one, other)],
                                     [minus(mine, theirs) for mine, theirs in zip(ends(one), ends(other))])
                    count += one != other
        self.assertGreater(count, 100)

    def test_unlike(self):
        for other in (Wedge(2002, 2, PLAIN.rows()), Wedge(2000, 2, PLAIN.rows()),
                      wedge_of_cells(2001, 2, [[4, 2, 3], [6, 3], [10]]), wedge_of_cells(2001, 2, [[5]]),
                      wedge_of_cells(2001, 1, [[4, 2], [6, 3], [10, 1], [5]]),
                      wedge_of_cells(2001, 3, [[4, 2, 3, 1], [6, 3, 9], [10, 1], [5]])):
            self.refuses(Unlike, {}, gap, PLAIN, other)
            self.refuses(Unlike, {}, gap, other, PLAIN)

    def test_unlike_goes_ahead_of_no_factor(self):
        one = wedge_of_cells(2001, 1, [[0, 5], [3]])
        self.refuses(Unlike, {}, gap, one, PLAIN)
        self.refuses(Unlike, {}, gap, PLAIN, one)
        self.refuses(Unlike, {}, gap, one, Wedge(2002, 1, one.rows()))

    def test_no_factor_of_the_first_goes_first(self):
        plain = wedge_of_cells(2001, 1, [[4, 5], [3]])
        one = wedge_of_cells(2001, 1, [[0, 5], [3]])
        other = wedge_of_cells(2001, 1, [[0, 7], [3]])
        five, seven = [{"step": 0, "below": (0, 1), "above": above} for above in ((5, 1), (7, 1))]
        self.refuses(NoFactor, five, gap, one, other)
        self.refuses(NoFactor, seven, gap, other, one)
        self.refuses(NoFactor, seven, gap, plain, other)
        self.refuses(NoFactor, five, gap, one, plain)

    def test_nothing_is_changed(self):
        self.leaves_all_alone(gap, PLAIN, PLAIN.changed(2001, 0, (1, 2)))
        self.assertEqual([len(row) for row in gap(PLAIN, PLAIN)], [len(row) for row in developed(PLAIN)])


def same_kinds(wedge, kinds):
    return [step[0] for step in steps(wedge)] == kinds
