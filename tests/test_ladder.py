"""Points 12 to 14: the kinds of steps, factors, and what agrees."""

from fractions import Fraction

from lagwedge.errors import NoFactor, NoStep
from lagwedge.ladder import agrees, factors, steps
from lagwedge.plan import Plan
from lagwedge.wedge import Wedge
from tests.cases import Case, shown
from tests.hows import HOWS, planned
from tests.plainly import factors_of, steps_of
from tests.samples import MANY, NOT_WHOLE, all_wedges, pair, pairs, wedge_of_cells

PLAIN = wedge_of_cells(2001, 2, [[4, 2, 3], [6, 3, 9], [10, 1], [5]])
NO_BELOW = wedge_of_cells(2001, 1, [[0, 5], [3]])
CANCELLED = wedge_of_cells(2001, 1, [[2, 1], [-2, 3], [1]])
BOTH_NOUGHT = wedge_of_cells(2001, 1, [[2, 1], [-2, -1], [4]])
ONE_YEAR = wedge_of_cells(2001, 3, [[7]])


def as_step(kind, below, above, factor):
    return (kind, pair(below), pair(above), None if factor is None else pair(factor))


class Kinds(Case):

    def test_one(self):
        self.assertEqual(steps(PLAIN), [("one", (20, 1), (26, 1), (13, 10)), ("one", (15, 1), (27, 1), (9, 5))])

    def test_below_nought_and_above_not(self):
        self.assertEqual(steps(NO_BELOW), [("none", (0, 1), (5, 1), None)])

    def test_columns_that_cancel(self):
        self.assertEqual(steps(CANCELLED), [("none", (0, 1), (4, 1), None)])
        self.assertEqual(steps(BOTH_NOUGHT), [("any", (0, 1), (0, 1), (1, 1))])

    def test_above_nought_and_below_not(self):
        wedge = wedge_of_cells(2001, 1, [[5, -5], [3]])
        self.assertEqual(steps(wedge), [("one", (5, 1), (0, 1), (0, 1))])

    def test_one_year_alone(self):
        self.assertEqual(steps(ONE_YEAR), [("any", (0, 1), (0, 1), (1, 1))] * 3)

    def test_fewer_years_than_lags(self):
        wedge = wedge_of_cells(2001, 4, [[4, 2], [7]])
        self.assertEqual(steps(wedge), [("one", (4, 1), (6, 1), (3, 2))] + [("any", (0, 1), (0, 1), (1, 1))] * 3)

    def test_cells_of_either_sign(self):
        wedge = wedge_of_cells(2001, 1, [[-4, 1], [Fraction(1, 2), -3], [7]])
        self.assertEqual(steps(wedge), [("one", (-7, 2), (-11, 2), (11, 7))])

    def test_the_year_that_knows_the_lag_last_counts(self):
        for years in range(2, 11):
            wedge = Wedge(2001, 1, [[(1, 1), (place, 1)] for place in range(years - 1)] + [[(1000, 1)]])
            added = (years - 1) * (years - 2) // 2
            self.assertEqual(steps(wedge)[0][1:3], ((years - 1, 1), (years - 1 + added, 1)))

    def test_against_plain_reckoning(self):
        for wedge in all_wedges():
            for how in HOWS:
                expected = [as_step(*step) for step in steps_of(wedge, **how)]
                self.assertEqual(steps(wedge, plan=planned(**how)), expected)

    def test_without_a_plan(self):
        for wedge in all_wedges():
            expected = [as_step(*step) for step in steps_of(wedge)]
            self.assertEqual(steps(wedge), expected)
            self.assertEqual(steps(wedge, plan=None), expected)
            self.assertEqual(steps(wedge, plan=Plan()), expected)


class ByPlan(Case):

    def test_the_latest_years(self):
        told = [steps(PLAIN, plan=Plan(last=last))[0][1:3] for last in (1, 2, 3, 4, 10, 0)]
        self.assertEqual(told, [((10, 1), (11, 1)), ((16, 1), (20, 1))] + [((20, 1), (26, 1))] * 4)

    def test_the_latest_years_of_those_that_know_the_lag(self):
        self.assertEqual(steps(PLAIN, plan=Plan(last=1))[1], ("one", (9, 1), (18, 1), (2, 1)))

    def test_left_out_at_one_step_alone(self):
        plan = Plan()
        plan.leave(2002, 0)
        self.assertEqual(steps(PLAIN, plan=plan),
                         [("one", (14, 1), (17, 1), (17, 14)), ("one", (15, 1), (27, 1), (9, 5))])

    def test_no_elder_year_makes_up_for_one_left_out(self):
        plan = Plan(last=1, free=(8, 3))
        plan.leave(2003, 0)
        self.assertEqual(steps(PLAIN, plan=plan)[0], ("any", (0, 1), (0, 1), (8, 3)))
        plan.keep_last(2)
        self.assertEqual(steps(PLAIN, plan=plan)[0], ("one", (6, 1), (9, 1), (3, 2)))

    def test_all_years_left_out(self):
        plan = Plan(free=(-1, 3))
        for year in (2001, 2002):
            plan.leave(year, 1)
        self.assertEqual(steps(PLAIN, plan=plan)[1], ("any", (0, 1), (0, 1), (-1, 3)))

    def test_free_for_the_kind_any_alone(self):
        plan = Plan(free=(5, 1))
        self.assertEqual(steps(PLAIN, plan=plan), steps(PLAIN))
        self.assertEqual(steps(NO_BELOW, plan=plan), steps(NO_BELOW))
        self.assertEqual(steps(BOTH_NOUGHT, plan=plan), [("any", (0, 1), (0, 1), (5, 1))])

    def test_picked(self):
        plan = Plan(free=(5, 1))
        plan.pick(0, (7, 2))
        self.assertEqual(steps(PLAIN, plan=plan), [("picked", (20, 1), (26, 1), (7, 2)), steps(PLAIN)[1]])
        self.assertEqual(steps(NO_BELOW, plan=plan), [("picked", (0, 1), (5, 1), (7, 2))])
        self.assertEqual(steps(BOTH_NOUGHT, plan=plan), [("picked", (0, 1), (0, 1), (7, 2))])

    def test_picked_factor_of_nought(self):
        plan = Plan(free=(5, 1))
        plan.pick(0, (0, 1))
        self.assertEqual([steps(wedge, plan=plan)[0][0::3] for wedge in (PLAIN, NO_BELOW, BOTH_NOUGHT)],
                         [("picked", (0, 1))] * 3)

    def test_without_effect(self):
        plan = Plan()
        for year, step in [(2000, 0), (2004, 0), (2005, 0), (-2001, 0), (2003, 1), (2001, 2), (2001, 5), (MANY, 0)]:
            plan.leave(year, step)
        for step in (2, 3, 4, 5):
            plan.pick(step, (9, 1))
        self.assertEqual(steps(PLAIN, plan=plan), steps(PLAIN))

    def test_the_plan_as_it_stands_at_the_call(self):
        plan = Plan()
        told = steps(PLAIN, plan=plan)
        plan.pick(0, (2, 1))
        self.assertEqual(steps(PLAIN, plan=plan)[0][3], (2, 1))
        self.assertEqual(told, steps(PLAIN))
        plan.take_back()
        plan.leave(2001, 1)
        self.assertEqual(steps(PLAIN, plan=plan)[1], ("one", (9, 1), (18, 1), (2, 1)))
        plan.take_back()
        self.assertEqual(steps(PLAIN, plan=plan), told)

    def test_plan_and_wedge_are_left_alone(self):
        plan = planned(**HOWS[-1])
        for call in (steps, factors):
            self.leaves_all_alone(call, PLAIN, plan=plan)
            self.leaves_all_alone(call, PLAIN)
        self.leaves_all_alone(agrees, PLAIN, 0, (1, 1), plan=plan)

    def test_a_plan_keeps_its_deeds(self):
        plan = Plan()
        plan.leave(2001, 0)
        before = shown(plan)
        steps(PLAIN, plan=plan)
        factors(PLAIN, plan=plan)
        agrees(PLAIN, 0, (1, 1), plan=plan)
        self.assertEqual(shown(plan), before)
        plan.take_back()
        self.assertEqual(shown(plan), shown(Plan()))


class Factors(Case):

    def test_factors_alone(self):
        self.assertEqual(factors(PLAIN), [(13, 10), (9, 5)])
        self.assertEqual(factors(ONE_YEAR), [(1, 1)] * 3)
        self.assertEqual(factors(ONE_YEAR, plan=Plan(free=(0, 1))), [(0, 1)] * 3)

    def test_against_plain_reckoning(self):
        refused = 0
        for wedge in all_wedges():
            for how in HOWS:
                expected = factors_of(wedge, **how)
                if isinstance(expected, list):
                    self.assertEqual(factors(wedge, plan=planned(**how)), pairs(expected))
                else:
                    refused += 1
                    _, below, above, _ = steps_of(wedge, **how)[expected]
                    fields = {"step": expected, "below": pair(below), "above": pair(above)}
                    self.refuses(NoFactor, fields, factors, wedge, plan=planned(**how))
        self.assertGreater(refused, 10)

    def test_no_factor(self):
        self.refuses(NoFactor, {"step": 0, "below": (0, 1), "above": (5, 1)}, factors, NO_BELOW)
        fields = {"step": 0, "below": (0, 1), "above": (4, 1)}
        self.refuses(NoFactor, fields, factors, CANCELLED)
        self.refuses(NoFactor, fields, factors, CANCELLED, plan=Plan(free=(2, 1)))

    def test_the_first_step_without_a_factor(self):
        wedge = wedge_of_cells(2001, 3, [[1, -1, 2, -2], [1, -1, 3], [2, -2], [1]])
        self.refuses(NoFactor, {"step": 1, "below": (0, 1), "above": (5, 1)}, factors, wedge)
        wedge = wedge_of_cells(2001, 3, [[1, -1, 0, 2], [1, -1, 3], [2, -2], [1]])
        self.refuses(NoFactor, {"step": 1, "below": (0, 1), "above": (3, 1)}, factors, wedge)
        plan = Plan()
        plan.pick(1, (0, 1))
        self.refuses(NoFactor, {"step": 2, "below": (0, 1), "above": (2, 1)}, factors, wedge, plan=plan)

    def test_a_pick_at_a_step_of_kind_none(self):
        plan = Plan()
        plan.pick(0, (4, 1))
        self.assertEqual(factors(NO_BELOW, plan=plan), [(4, 1)])
        plan.unpick(0)
        self.refuses(NoFactor, {"step": 0, "below": (0, 1), "above": (5, 1)}, factors, NO_BELOW, plan=plan)

    def test_a_year_left_out_at_a_step_of_kind_none(self):
        plan = Plan()
        plan.leave(2001, 0)
        self.assertEqual(factors(CANCELLED, plan=plan), [(-1, 2)])


class Agreeing(Case):

    def test_the_factor_of_kind_one_alone(self):
        for wedge in all_wedges():
            for how in HOWS:
                for step, (kind, below, above, _) in enumerate(steps_of(wedge, **how)):
                    for factor in (Fraction(0), Fraction(1), Fraction(3, 2), above / below if below else Fraction(2)):
                        told = agrees(wedge, step, pair(factor), plan=planned(**how))
                        self.assertIs(told, factor * below == above)

    def test_kinds(self):
        some = pairs([0, 1, -1, Fraction(13, 10), 5])
        self.assertEqual([agrees(PLAIN, 0, factor) for factor in some], [False, False, False, True, False])
        self.assertEqual([agrees(NO_BELOW, 0, factor) for factor in some], [False] * 5)
        self.assertEqual([agrees(BOTH_NOUGHT, 0, factor) for factor in some], [True] * 5)
        self.assertEqual([agrees(ONE_YEAR, 2, factor) for factor in some], [True] * 5)

    def test_whatever_is_picked(self):
        plan = Plan()
        plan.pick(0, (7, 2))
        self.assertIs(agrees(PLAIN, 0, (7, 2), plan=plan), False)
        self.assertIs(agrees(PLAIN, 0, (13, 10), plan=plan), True)
        self.assertIs(agrees(NO_BELOW, 0, (7, 2), plan=plan), False)

    def test_by_the_years_that_the_plan_counts(self):
        plan = Plan(last=2)
        plan.leave(2003, 0)
        self.assertIs(agrees(PLAIN, 0, (3, 2), plan=plan), True)
        self.assertIs(agrees(PLAIN, 0, (3, 2)), False)
        self.assertIs(agrees(PLAIN, 0, (13, 10), plan=plan), False)

    def test_every_step_of_the_wedge(self):
        for wedge in all_wedges():
            self.assertIn(agrees(wedge, 0, (1, 1)), (True, False))
            self.assertIn(agrees(wedge, wedge.depth - 1, (1, 1)), (True, False))

    def test_no_such_step(self):
        for wedge in (PLAIN, ONE_YEAR, NO_BELOW):
            for step in [-1, wedge.depth, wedge.depth + 1, 6, MANY, -MANY, *NOT_WHOLE]:
                self.refuses(NoStep, {"step": step}, agrees, wedge, step, (1, 1))
                self.refuses(NoStep, {"step": step}, agrees, wedge, step, (1, 1), plan=Plan(last=2))
