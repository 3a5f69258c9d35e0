"""Points 15 and 16: the developed table, what is still to come, and what is foretold."""

from fractions import Fraction

from lagwedge.developed import developed, ends, foretold, still, still_sum
from lagwedge.errors import NoFactor
from lagwedge.ladder import factors, steps
from lagwedge.parts import order, plus
from lagwedge.plan import Plan
from lagwedge.wedge import Wedge
from tests.cases import Case
from tests.hows import HOWS, planned
from tests.plainly import developed_of, factors_of, steps_of, sums_of
from tests.samples import all_wedges, as_rows, fractions, growing_wedges, pair, pairs, wedge_of_cells

CALLS = (developed, ends, still, still_sum, foretold)
PLAIN = wedge_of_cells(2001, 2, [[4, 2, 3], [6, 3, 9], [10, 1], [5]])
ONE_YEAR = wedge_of_cells(2001, 3, [[7]])


def developable():
    """All wedges, each by all ways that give it factors, with the factors."""
    for wedge in all_wedges():
        for how in HOWS:
            leading = factors_of(wedge, **how)
            if isinstance(leading, list):
                yield wedge, how, leading


class Tables(Case):

    def test_plain(self):
        # The factors are 13/10 and 9/5.
        table = [[4, 6, 9], [6, 9, 18], [10, 11, Fraction(99, 5)], [5, Fraction(13, 2), Fraction(117, 10)]]
        self.assertEqual(developed(PLAIN), as_rows([[Fraction(one) for one in row] for row in table]))
        self.assertEqual(ends(PLAIN), [(9, 1), (18, 1), (99, 5), (117, 10)])
        self.assertEqual(still(PLAIN), [(0, 1), (0, 1), (44, 5), (67, 10)])
        self.assertEqual(still_sum(PLAIN), (31, 2))
        self.assertEqual(foretold(PLAIN), [(0, 1), (0, 1), (44, 5), (3, 2)])

    def test_one_year_alone(self):
        self.assertEqual(developed(ONE_YEAR), [[(7, 1)] * 4])
        self.assertEqual(still_sum(ONE_YEAR), (0, 1))
        self.assertEqual(developed(ONE_YEAR, plan=Plan(free=(2, 1))), [[(7, 1), (14, 1), (28, 1), (56, 1)]])
        self.assertEqual(foretold(ONE_YEAR, plan=Plan(free=(2, 1))), [(7, 1)])

    def test_fewer_years_than_lags(self):
        wedge = wedge_of_cells(2001, 3, [[4, 2], [7]])
        self.assertEqual(developed(wedge), [[(4, 1), (6, 1), (6, 1), (6, 1)], [(7, 1), (21, 2), (21, 2), (21, 2)]])

    def test_factor_of_nought(self):
        wedge = wedge_of_cells(2001, 2, [[5, -5, 3], [4, -4], [3]])
        self.refuses(NoFactor, {"step": 1, "below": (0, 1), "above": (3, 1)}, developed, wedge)
        plan = Plan()
        plan.pick(1, (2, 1))
        self.assertEqual(developed(wedge, plan=plan), as_rows([[Fraction(one) for one in row]
                                                               for row in ([5, 0, 3], [4, 0, 0], [3, 0, 0])]))

    def test_picked_factors_lead_from_known_sums_alone(self):
        plan = Plan()
        plan.pick(0, (100, 1))
        plan.pick(1, (1, 2))
        self.assertEqual(developed(PLAIN, plan=plan)[:2], developed(PLAIN)[:2])
        self.assertEqual(ends(PLAIN, plan=plan), [(9, 1), (18, 1), (11, 2), (250, 1)])

    def test_against_plain_reckoning(self):
        for wedge, how, leading in developable():
            plan = planned(**how)
            table = developed_of(wedge, leading)
            latest = [row[-1] for row in sums_of(wedge)]
            to_come = [row[-1] - known for row, known in zip(table, latest)]
            self.assertEqual(developed(wedge, plan=plan), as_rows(table))
            self.assertEqual(ends(wedge, plan=plan), pairs(row[-1] for row in table))
            self.assertEqual(still(wedge, plan=plan), pairs(to_come))
            self.assertEqual(still_sum(wedge, plan=plan), pair(sum(to_come, Fraction(0))))

    def test_foretold_against_plain_reckoning(self):
        for wedge, how, leading in developable():
            table = developed_of(wedge, leading)
            behind = [row[min(len(known), wedge.depth)] - known[-1] for row, known in zip(table, sums_of(wedge))]
            self.assertEqual(foretold(wedge, plan=planned(**how)), pairs(behind))

    def test_without_a_plan(self):
        for call in CALLS:
            for wedge in (PLAIN, ONE_YEAR):
                self.assertEqual(call(wedge), call(wedge, plan=None))
                self.assertEqual(call(wedge), call(wedge, plan=Plan()))

    def test_known_sums_as_they_are(self):
        for wedge, how, _ in developable():
            table = developed(wedge, plan=planned(**how))
            self.assertEqual([row[:len(known)] for row, known in zip(table, wedge.sums())], wedge.sums())


class Refused(Case):

    def test_as_factors_does(self):
        refused = 0
        for wedge in all_wedges():
            for how in HOWS:
                step = factors_of(wedge, **how)
                if not isinstance(step, list):
                    refused += 1
                    _, below, above, _ = steps_of(wedge, **how)[step]
                    fields = {"step": step, "below": pair(below), "above": pair(above)}
                    for call in CALLS:
                        self.refuses(NoFactor, fields, call, wedge, plan=planned(**how))
        self.assertGreater(refused, 10)

    def test_where_none_is_picked(self):
        wedge = wedge_of_cells(2001, 1, [[2, 1], [-2, 3], [1]])
        for call in CALLS:
            self.refuses(NoFactor, {"step": 0, "below": (0, 1), "above": (4, 1)}, call, wedge)
        plan = Plan()
        plan.pick(0, (3, 1))
        self.assertEqual(ends(wedge, plan=plan), [(3, 1), (1, 1), (3, 1)])


class LeftAlone(Case):

    def test_nothing_is_changed_or_kept(self):
        for call in CALLS:
            self.leaves_all_alone(call, PLAIN)
            self.leaves_all_alone(call, PLAIN, plan=planned(last=2, lefts=[(2003, 0)], picks=[(1, Fraction(3))]))

    def test_rows_are_not_those_of_the_wedge(self):
        table = developed(PLAIN)
        for row in table:
            row.clear()
        self.assertEqual(PLAIN.rows()[0], [(4, 1), (2, 1), (3, 1)])
        self.assertEqual(PLAIN.sums()[0], [(4, 1), (6, 1), (9, 1)])

    def test_the_plan_as_it_stands_at_the_call(self):
        plan = Plan()
        before = [call(PLAIN, plan=plan) for call in CALLS]
        plan.pick(1, (7, 1))
        after = [call(PLAIN, plan=plan) for call in CALLS]
        self.assertEqual([one == other for one, other in zip(before, after)], [False] * len(CALLS))
        plan.take_back()
        self.assertEqual([call(PLAIN, plan=plan) for call in CALLS], before)


def no_latest(how):
    return how.get("last", 0) == 0


class Growing(Case):
    """Point 16."""

    def grown_as_foretold(self):
        for wedge, how, leading in developable():
            if no_latest(how) and len(wedge) < 10:
                for new in ((0, 1), (-7, 2), (11, 1)):
                    plan = planned(**how)
                    yield wedge.grown(foretold(wedge, plan=plan) + [new]), wedge, plan

    def test_factors_stay(self):
        stayed = 0
        for grown, wedge, plan in self.grown_as_foretold():
            for before, after in zip(steps(wedge, plan=plan), steps(grown, plan=plan)):
                if after[1] != (0, 1) or before[0] == "picked":
                    self.assertEqual(after[3], before[3])
                    stayed += 1
        self.assertGreater(stayed, 1000)

    def test_ends_of_the_elder_years_stay(self):
        stayed = 0
        for grown, wedge, plan in self.grown_as_foretold():
            after = steps(grown, plan=plan)
            if [step[3] for step in after] == factors(wedge, plan=plan):
                self.assertEqual(ends(grown, plan=plan)[:-1], ends(wedge, plan=plan))
                stayed += 1
        self.assertGreater(stayed, 300)

    def test_year_by_year(self):
        wedge = PLAIN
        for new in ((3, 1), (8, 1), (1, 2), (0, 1), (9, 1), (2, 1)):
            elder = ends(wedge)
            wedge = wedge.grown(foretold(wedge) + [new])
            self.assertEqual(ends(wedge)[:-1], elder)
            self.assertEqual(factors(wedge), factors(PLAIN))

    def test_where_the_latest_years_alone_count_factors_may_turn(self):
        plan = Plan(last=2)
        grown = PLAIN.grown(foretold(PLAIN, plan=plan) + [(1, 1)])
        self.assertNotEqual(factors(grown, plan=plan), factors(PLAIN, plan=plan))


class GreaterNewestCell(Case):
    """Point 16."""

    def test_no_end_falls_and_the_own_one_grows(self):
        more = (5, 3)
        for wedge in growing_wedges():
            before = ends(wedge)
            leading = fractions(factors(wedge))
            for place, year in enumerate(wedge.years()):
                lag = wedge.known(year)
                after = ends(wedge.changed(year, lag, more))
                self.assertEqual([end for end, old in zip(after, before) if order(end, old) == -1], [])
                grows = Fraction(*more)
                for factor in leading[lag:]:
                    grows *= factor
                self.assertEqual(after[place], plus(before[place], pair(grows)))


class ManyFigures(Case):

    def test_cells_of_four_hundred_figures(self):
        cells = [[Fraction(10 ** 399 + 7 * place + lag, 3 ** 800 + 2 * lag + place) for lag in range(4 - place)]
                 for place in range(4)]
        wedge = Wedge(2001, 3, as_rows(cells))
        self.assertEqual(developed(wedge), as_rows(developed_of(wedge, factors_of(wedge))))
