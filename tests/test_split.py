"""Points 17 to 20: shares, the split into tops and columns, and what fits a wedge."""

from fractions import Fraction

from lagwedge.developed import ends
from lagwedge.errors import NoFactor, NoSplit, Unlike
from lagwedge.ladder import factors, steps
from lagwedge.parts import ONE, minus, plus, total
from lagwedge.plan import Plan
from lagwedge.split import misfit, product, shares, split
from lagwedge.wedge import Wedge
from tests.cases import Case
from tests.hows import granted_how, planned, refused_how
from tests.plainly import factors_of, shared_plainly, sums_of
from tests.samples import NOT_PARTS, all_wedges, as_rows, fractions, pairs, wedge_of_cells

PLAIN = wedge_of_cells(2001, 2, [[4, 2, 3], [6, 3, 9], [10, 1], [5]])
# Of the columns 1/4, 1/4 and 1/2, with the tops 8, 12 and 20.
FITTING = wedge_of_cells(2001, 2, [[2, 2, 4], [3, 3], [5]])
TOPS = [(8, 1), (12, 1), (20, 1)]
COLUMNS = [(1, 4), (1, 4), (1, 2)]


class Shares(Case):

    def test_plain(self):
        # The factors are 13/10 and 9/5.
        self.assertEqual(shares(PLAIN), [(50, 117), (5, 9), (1, 1)])

    def test_the_last_lag(self):
        for wedge, how, _ in granted_how():
            told = shares(wedge, plan=planned(**how))
            self.assertEqual(len(told), wedge.depth + 1)
            self.assertEqual(told[-1], (1, 1))

    def test_one_year_alone(self):
        wedge = wedge_of_cells(2001, 3, [[7]])
        self.assertEqual(shares(wedge), [(1, 1)] * 4)
        self.assertEqual(shares(wedge, plan=Plan(free=(-2, 3))), [(-27, 8), (9, 4), (-3, 2), (1, 1)])

    def test_against_plain_reckoning(self):
        for wedge, how, leading in granted_how():
            self.assertEqual(shares(wedge, plan=planned(**how)), pairs(shared_plainly(leading)))

    def test_without_a_plan(self):
        self.assertEqual(shares(PLAIN, plan=None), shares(PLAIN))
        self.assertEqual(shares(PLAIN, plan=Plan()), shares(PLAIN))

    def test_by_a_plan(self):
        plan = Plan(last=1)
        plan.pick(0, (4, 1))
        self.assertEqual(shares(PLAIN, plan=plan), [(1, 8), (1, 2), (1, 1)])


class RefusedShares(Case):

    def test_all_that_are_due(self):
        seen = set()
        for wedge, how, kind, fields in refused_how():
            seen.add(kind)
            for call in (shares, split):
                self.refuses(kind, fields, call, wedge, plan=planned(**how))
        self.assertEqual(seen, {NoFactor, NoSplit})

    def test_factor_of_nought_by_the_wedge(self):
        wedge = wedge_of_cells(2001, 1, [[5, -5], [3]])
        for call in (shares, split):
            self.refuses(NoSplit, {"step": 0}, call, wedge)

    def test_factor_of_nought_picked(self):
        for step in (0, 1):
            plan = Plan()
            plan.pick(step, (0, 1))
            for call in (shares, split):
                self.refuses(NoSplit, {"step": step}, call, PLAIN, plan=plan)

    def test_factor_of_nought_that_is_free(self):
        wedge = wedge_of_cells(2001, 3, [[4, 2], [6]])
        for call in (shares, split):
            self.refuses(NoSplit, {"step": 1}, call, wedge, plan=Plan(free=(0, 1)))

    def test_the_first_one(self):
        plan = Plan()
        plan.pick(1, (0, 1))
        plan.pick(0, (0, 1))
        for call in (shares, split):
            self.refuses(NoSplit, {"step": 0}, call, PLAIN, plan=plan)

    def test_no_factor_goes_ahead(self):
        # Step 0 has the factor nought, step 1 none.
        behind = wedge_of_cells(2001, 2, [[5, -5, 3], [4, -4], [3]])
        # Step 0 has none; for step 1 nought is picked.
        ahead = wedge_of_cells(2001, 2, [[0, 5, 3], [0, 4], [3]])
        plan = Plan()
        plan.pick(1, (0, 1))
        for call in (shares, split):
            self.refuses(NoFactor, {"step": 1, "below": (0, 1), "above": (3, 1)}, call, behind)
            self.refuses(NoFactor, {"step": 0, "below": (0, 1), "above": (9, 1)}, call, ahead, plan=plan)


class Splits(Case):

    def test_plain(self):
        told = split(FITTING)
        self.assertEqual(told, (TOPS, COLUMNS))
        self.assertIsInstance(told, tuple)

    def test_against_plain_reckoning(self):
        for wedge, how, leading in granted_how():
            tops, columns = split(wedge, plan=planned(**how))
            found = shared_plainly(leading)
            self.assertEqual(tops, ends(wedge, plan=planned(**how)))
            self.assertEqual(columns, pairs([found[0]] + [one - ahead for ahead, one in zip(found, found[1:])]))

    def test_product(self):
        self.assertEqual(product([(2, 1), (-3, 2)], [(1, 2), (0, 1), (5, 1)]),
                         [[(1, 1), (0, 1), (10, 1)], [(-3, 4), (0, 1), (-15, 2)]])
        self.assertEqual(product([], [(1, 1)]), [])
        self.assertEqual(product([(1, 1), (2, 1)], []), [[], []])
        self.assertEqual(product(tops=[(3, 1)], columns=[(1, 3)]), [[(1, 1)]])

    def test_the_product_of_a_split_has_its_margins(self):
        for wedge in all_wedges():
            leading = factors_of(wedge)
            if isinstance(leading, list) and 0 not in leading:
                table = product(*split(wedge))
                self.assertEqual([total(row) for row in table], ends(wedge))
                known = [row[:len(cells)] for row, cells in zip(table, wedge.rows())]
                self.assertEqual([total(row) for row in known], wedge.latest())
                for lag in range(wedge.depth + 1):
                    self.assertEqual(total([row[lag] for row in known if len(row) > lag]),
                                     total([row[lag] for row in wedge.rows() if len(row) > lag]))

    def test_nothing_is_changed_or_kept(self):
        plan = planned(last=2, lefts=[(2003, 0)], picks=[(1, Fraction(3))])
        for call in (shares, split):
            self.leaves_all_alone(call, PLAIN)
            self.leaves_all_alone(call, PLAIN, plan=plan)
        self.leaves_all_alone(product, list(TOPS), list(COLUMNS))
        self.keeps_nothing(product, list(TOPS), list(COLUMNS))
        self.leaves_all_alone(misfit, FITTING, list(TOPS), list(COLUMNS))


class Fitting(Case):

    def test_fits(self):
        self.assertIsNone(misfit(FITTING, TOPS, COLUMNS))
        self.assertIsNone(misfit(wedge=FITTING, tops=TOPS, columns=COLUMNS))

    def test_the_sum(self):
        for lag in range(3):
            columns = list(COLUMNS)
            columns[lag] = plus(columns[lag], (1, 1000))
            self.assertEqual(misfit(FITTING, TOPS, columns), ("sum", -1))

    def test_the_sum_goes_ahead(self):
        self.assertEqual(misfit(FITTING, [(0, 1)] * 3, [(0, 1)] * 3), ("sum", -1))

    def test_the_first_year(self):
        for place in range(3):
            tops = TOPS[:place] + [plus(top, (-1, 7)) for top in TOPS[place:]]
            self.assertEqual(misfit(FITTING, tops, COLUMNS), ("row", 2001 + place))

    def test_years_go_ahead_of_lags(self):
        self.assertEqual(misfit(FITTING, TOPS, [(1, 4), (1, 2), (1, 4)]), ("row", 2002))
        self.assertEqual(misfit(FITTING, TOPS, [(1, 2), (0, 1), (1, 2)]), ("row", 2003))
        self.assertEqual(misfit(FITTING, TOPS[:2] + [(21, 1)], [(1, 2), (0, 1), (1, 2)]), ("row", 2003))

    def test_the_first_lag(self):
        # In all these wedges the years have the same last known sums; the columns have not.
        for cells, lag in (([[3, 1, 4], [3, 3], [5]], 0), ([[2, 2, 4], [3, 3], [5]], None),
                           ([[2, 3, 3], [3, 3], [5]], 1), ([[2, 3, 3], [4, 2], [5]], 0)):
            told = misfit(wedge_of_cells(2001, 2, cells), TOPS, COLUMNS)
            self.assertEqual(told, None if lag is None else ("column", lag))

    def test_tops_of_nought(self):
        wedge = wedge_of_cells(2001, 2, [[1, 1, 0], [0, 0, 0], [0, 0], [0]])
        self.assertIsNone(misfit(wedge, [(2, 1), (0, 1), (0, 1), (0, 1)], [(1, 2), (1, 2), (0, 1)]))
        self.assertEqual(misfit(wedge, [(2, 1), (0, 1), (0, 1), (0, 1)], [(1, 4), (3, 4), (0, 1)]), ("column", 0))

    def test_a_lag_that_no_year_knows(self):
        wedge = wedge_of_cells(2001, 3, [[4, 2], [8]])
        self.assertIsNone(misfit(wedge, [(12, 1), (24, 1)], [(1, 3), (1, 6), (7, 2), (-3, 1)]))

    def test_the_year_of_another_first_year(self):
        wedge = Wedge(9999, 2, FITTING.rows())
        self.assertEqual(misfit(wedge, TOPS[:2] + [(0, 1)], COLUMNS), ("row", 10001))


class UnlikeLists(Case):

    def test_tops(self):
        for tops in [TOPS[:2], TOPS + [ONE], [], tuple(TOPS), None, True, 3, "abc", {0: ONE, 1: ONE, 2: ONE}]:
            self.refuses(Unlike, {}, misfit, FITTING, tops, COLUMNS)

    def test_columns(self):
        for columns in [COLUMNS[:2], COLUMNS + [(0, 1)], [], tuple(COLUMNS), None, True, 3, "abc", {0: ONE}]:
            self.refuses(Unlike, {}, misfit, FITTING, TOPS, columns)

    def test_what_is_no_part(self):
        for wrong in NOT_PARTS:
            for place in range(3):
                tops, columns = list(TOPS), list(COLUMNS)
                tops[place] = wrong
                self.refuses(Unlike, {}, misfit, FITTING, tops, COLUMNS)
                columns[place] = wrong
                self.refuses(Unlike, {}, misfit, FITTING, TOPS, columns)

    def test_years_and_lags_are_not_the_same_number(self):
        self.refuses(Unlike, {}, misfit, PLAIN, [ONE] * 3, [ONE] * 3)
        self.refuses(Unlike, {}, misfit, PLAIN, [ONE] * 4, [ONE] * 4)
        self.assertEqual(misfit(PLAIN, [ONE] * 4, [ONE] * 3), ("sum", -1))


class ToldSplitFits(Case):
    """Point 20."""

    def test_the_told_split_fits(self):
        told = 0
        for wedge in all_wedges():
            leading = factors_of(wedge)
            if isinstance(leading, list) and 0 not in leading:
                self.assertIsNone(misfit(wedge, *split(wedge)))
                told += 1
        self.assertGreater(told, 100)

    def test_no_other_pair_fits(self):
        told = 0
        for wedge in all_wedges():
            if [step[0] for step in steps(wedge)] == ["one"] * wedge.depth and (0, 1) not in factors(wedge):
                tops, columns = split(wedge)
                for place in range(len(tops)):
                    if wedge.latest()[place] != (0, 1):
                        other = tops[:place] + [plus(tops[place], (1, 3))] + tops[place + 1:]
                        self.assertIsNotNone(misfit(wedge, other, columns))
                for one in range(wedge.depth + 1):
                    for two in range(one):
                        other = list(columns)
                        other[one] = plus(other[one], (1, 3))
                        other[two] = minus(other[two], (1, 3))
                        self.assertIsNotNone(misfit(wedge, tops, other))
                        told += 1
        self.assertGreater(told, 100)

    def test_only_this_pair_comes_back_from_its_product(self):
        tops = fractions(TOPS)
        for columns in ([Fraction(1, 2), Fraction(1, 3), Fraction(1, 6)], [Fraction(2), Fraction(-3, 2), Fraction(1, 2)],
                        [Fraction(-1, 5), Fraction(1), Fraction(1, 5)]):
            cells = [[top * column for column in columns[:3 - place]] for place, top in enumerate(tops)]
            wedge = Wedge(2001, 2, as_rows(cells))
            self.assertEqual(split(wedge), (TOPS, pairs(columns)))
            self.assertIsNone(misfit(wedge, TOPS, pairs(columns)))

    def test_share_times_end_is_the_last_known_sum(self):
        for wedge, how, leading in granted_how():
            found = shares(wedge, plan=planned(**how))
            told = [Fraction(*end) * Fraction(*found[len(row) - 1])
                    for end, row in zip(ends(wedge, plan=planned(**how)), wedge.rows())]
            self.assertEqual(told, [row[-1] for row in sums_of(wedge)])
