"""Points 26 and 27: misses, the least of them, spreads, and how unsure ends are."""

from fractions import Fraction

from lagwedge.errors import Few, NoMiss, NoStep
from lagwedge.ladder import factors
from lagwedge.misses import least, miss, spreads, unsure
from lagwedge.wedge import Wedge
from tests.cases import Case
from tests.plainly import developed_of, factors_of, sums_of
from tests.samples import (
    MANY, NOT_WHOLE, as_rows, fractions, growing_wedges, known_cells, pair, pairs, sample_rows, wedge_of_cells)

PLAIN = wedge_of_cells(2001, 1, [[4, 4], [4, 8], [2]])
DEEP = wedge_of_cells(2001, 2, [[4, 4, 2], [4, 8, 6], [8, 8], [6]])
ALONE = wedge_of_cells(2001, 2, [[4, 4, 2], [4, 8], [8]])


def missed():
    return [wedge for wedge in growing_wedges() if len(wedge) > wedge.depth]


def miss_plainly(wedge, step, factor):
    rows = [row for row in sums_of(wedge) if len(row) > step + 1]
    return sum((row[step + 1] - factor * row[step]) ** 2 / row[step] for row in rows)


def spreads_plainly(wedge):
    found = []
    for step, factor in enumerate(factors_of(wedge)):
        years = len([row for row in sums_of(wedge) if len(row) > step + 1])
        if years > 1:
            found.append(miss_plainly(wedge, step, factor) / (years - 1))
        else:
            found.append(min(found, default=Fraction(0)))
    return found


def unsure_plainly(wedge):
    leading, wide = factors_of(wedge), spreads_plainly(wedge)
    found = []
    for known, row in zip(sums_of(wedge), developed_of(wedge, leading)):
        added = Fraction(0)
        for step in range(len(known) - 1, wedge.depth):
            weight = sum(other[step] for other in sums_of(wedge) if len(other) > step + 1)
            added += wide[step] / leading[step] ** 2 * (1 / row[step] + 1 / weight)
        found.append(row[-1] ** 2 * added)
    return found


class Misses(Case):

    def test_plain(self):
        # The sums 4 to 8 and 4 to 12; the factor 5/2 misses them by 2 each.
        self.assertEqual(miss(PLAIN, 0, (5, 2)), (2, 1))
        self.assertEqual(miss(PLAIN, 0, (2, 1)), (4, 1))
        self.assertEqual(miss(PLAIN, 0, (0, 1)), (52, 1))
        self.assertEqual(miss(wedge=PLAIN, factor=(-1, 2), step=0), (74, 1))

    def test_against_plain_reckoning(self):
        for wedge in missed():
            for step in range(wedge.depth):
                for factor in (Fraction(0), Fraction(1), Fraction(-2, 3), Fraction(9, 7)):
                    self.assertEqual(miss(wedge, step, pair(factor)), pair(miss_plainly(wedge, step, factor)))

    def test_nothing_is_changed_or_kept(self):
        for call in (least, spreads, unsure):
            self.leaves_all_alone(call, DEEP)
        self.leaves_all_alone(miss, DEEP, 1, (3, 2))


class Least(Case):

    def test_plain(self):
        self.assertEqual(least(PLAIN), [((8, 1), (5, 2), (2, 1))])
        self.assertEqual(least(DEEP), [((16, 1), (9, 4), (3, 1)), ((20, 1), (7, 5), (3, 10))])

    def test_weight_is_below_and_the_factor_the_ladders(self):
        for wedge in missed():
            told = least(wedge)
            below = [sum(row[step] for row in sums_of(wedge) if len(row) > step + 1) for step in range(wedge.depth)]
            self.assertEqual([weight for weight, _, _ in told], pairs(below))
            self.assertEqual([factor for _, factor, _ in told], factors(wedge))
            self.assertEqual([lowest for _, _, lowest in told],
                             [miss(wedge, step, factor) for step, factor in enumerate(factors(wedge))])

    def test_the_miss_of_any_factor_out_of_the_least_one(self):
        for wedge in missed():
            for step, told in enumerate(least(wedge)):
                weight, factor, lowest = [Fraction(*one) for one in told]
                for other in (factor, factor + 1, factor - Fraction(1, 9), Fraction(0), Fraction(-3)):
                    found = Fraction(*miss(wedge, step, pair(other)))
                    self.assertEqual(found, lowest + weight * (other - factor) ** 2)
                    self.assertIs(found > lowest, other != factor)


class Spreads(Case):

    def test_plain(self):
        self.assertEqual(spreads(PLAIN), [(2, 1)])
        self.assertEqual(spreads(DEEP), [(3, 2), (3, 10)])

    def test_one_year_alone_that_knows_both_lags(self):
        self.assertEqual(least(ALONE)[1], ((8, 1), (5, 4), (0, 1)))
        self.assertEqual(spreads(ALONE), [(2, 1), (2, 1)])

    def test_one_year_alone_and_no_step_ahead(self):
        self.assertEqual(spreads(wedge_of_cells(2001, 1, [[4, 4], [5]])), [(0, 1)])

    def test_the_least_of_the_steps_ahead(self):
        first = wedge_of_cells(2001, 3, [[1, 1, 9, 5], [1, 2, 9], [1, 3], [1]])
        self.assertEqual(spreads(first), pairs([1, Fraction(27, 10), 1]))
        last = wedge_of_cells(2001, 3, [[1, 1, 10, 5], [1, 9, 45], [1, 17], [1]])
        self.assertEqual(spreads(last), pairs([64, Fraction(5, 12), Fraction(5, 12)]))
        between = wedge_of_cells(2001, 4, [[4, 9, 4, 1, 1], [4, 1, 7, 9], [4, 5, 3], [4, 20], [4]])
        told = spreads(between)
        self.assertEqual(told, pairs(spreads_plainly(between)))
        self.assertEqual(told[3], told[1])
        self.assertEqual(sorted(fractions(told[:3]))[0], Fraction(*told[1]))

    def test_against_plain_reckoning(self):
        for wedge in missed():
            self.assertEqual(spreads(wedge), pairs(spreads_plainly(wedge)))


class Unsure(Case):

    def test_plain(self):
        # The end 5, of 2 at lag 0: 25 times 2 over 25/4 times (1/2 + 1/8).
        self.assertEqual(unsure(PLAIN), [(0, 1), (0, 1), (5, 1)])

    def test_years_that_know_the_last_lag(self):
        for wedge in missed():
            told = unsure(wedge)
            known = [wedge.known(year) == wedge.depth for year in wedge.years()]
            self.assertEqual([one for one, full in zip(told, known) if full], [(0, 1)] * (len(wedge) - wedge.depth))

    def test_against_plain_reckoning(self):
        for wedge in missed():
            self.assertEqual(unsure(wedge), pairs(unsure_plainly(wedge)))


class RefusedMisses(Case):

    def asked(self, wedge):
        return [(miss, wedge, 0, (1, 1)), (miss, wedge, wedge.depth - 1, (0, 1)), (least, wedge), (spreads, wedge),
                (unsure, wedge)]

    def test_too_few_years(self):
        for depth in range(1, 7):
            for years in range(1, depth + 1):
                for rows in (sample_rows(years, depth), as_rows([[Fraction(5)] * known_cells(years, depth, place)
                                                                 for place in range(years)])):
                    for call in self.asked(Wedge(2001, depth, rows)):
                        self.refuses(Few, {"count": years, "least": depth + 1}, *call)

    def test_just_enough_years(self):
        for depth in range(1, 7):
            rows = as_rows([[Fraction(5)] * known_cells(depth + 1, depth, place) for place in range(depth + 1)])
            wedge = Wedge(2001, depth, rows)
            self.assertEqual([len(told) for told in (least(wedge), spreads(wedge), unsure(wedge))],
                             [depth, depth, depth + 1])
            self.assertEqual(miss(wedge, depth - 1, (depth + 1, depth)), (0, 1))

    def test_a_sum_of_nought_or_below(self):
        for below in (0, -1, Fraction(-1, 1000)):
            for row in range(5):
                for lag in range(known_cells(5, 2, row)):
                    cells = [[Fraction(5)] * known_cells(5, 2, place) for place in range(5)]
                    cells[row][lag] += below - sum(cells[row][:lag + 1])
                    wedge = Wedge(2001, 2, as_rows(cells))
                    self.assertEqual(wedge.sums()[row][lag], pair(Fraction(below)))
                    for call in self.asked(wedge):
                        self.refuses(NoMiss, {"year": 2001 + row, "lag": lag}, *call)

    def test_the_first_one_by_year_and_then_by_lag(self):
        for cells, year, lag in (
                ([[5, -6, 1], [0, 1, 1], [-1, 5], [0]], 2001, 1),
                ([[5, 1, -6], [0, 1, 1], [-1, 5], [0]], 2001, 2),
                ([[5, 1, 1], [0, 0, 1], [-1, 5], [0]], 2002, 0),
                ([[5, 1, 1], [1, 2, 1], [3, -3], [0]], 2003, 1),
                ([[5, 1, 1], [1, 2, 1], [3, -2], [0]], 2004, 0)):
            for call in self.asked(wedge_of_cells(2001, 2, cells)):
                self.refuses(NoMiss, {"year": year, "lag": lag}, *call)

    def test_cells_below_nought_are_let(self):
        self.assertEqual(least(wedge_of_cells(2001, 1, [[5, -4], [3, -1], [1]])), [((8, 1), (3, 8), (49, 120))])

    def test_few_goes_ahead_of_no_miss(self):
        for call in self.asked(wedge_of_cells(2001, 3, [[0, 0, 0], [0, 0], [0]])):
            self.refuses(Few, {"count": 3, "least": 4}, *call)

    def test_no_step_goes_ahead(self):
        few = wedge_of_cells(2001, 3, [[0, 0, 0], [0, 0], [0]])
        none = wedge_of_cells(2001, 1, [[0, 0], [0, 0], [0]])
        for wedge in (few, none, PLAIN, DEEP):
            for step in [-1, wedge.depth, wedge.depth + 1, 6, MANY, -MANY, *NOT_WHOLE]:
                self.refuses(NoStep, {"step": step}, miss, wedge, step, (1, 1))
