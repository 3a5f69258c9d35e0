"""Points 10 and 11: plans, their deeds, and how deeds are taken back."""

from lagwedge.errors import BadPlan, NothingBack
from lagwedge.plan import Plan
from tests.cases import Case, shown
from tests.samples import MANY, NOT_PARTS, NOT_WHOLE

BAD_LASTS = [-1, 11, -MANY, MANY, *NOT_WHOLE]
BAD_STEPS = [-1, 6, 7, -MANY, MANY, *NOT_WHOLE]
YEARS = [0, 2001, 9999, 10008, -1, -2001, MANY, -MANY]


def full_plan():
    plan = Plan(last=4, free=(1, 2))
    plan.leave(2003, 1)
    plan.leave(2001, 0)
    plan.pick(2, (5, 4))
    return plan


class Making(Case):

    def test_where_nothing_is_told(self):
        plan = Plan()
        self.assertEqual((plan.last, plan.free, plan.lefts(), plan.picks()), (0, (1, 1), [], []))

    def test_every_last(self):
        for last in range(11):
            self.assertEqual(Plan(last=last).last, last)

    def test_free(self):
        for free in [(0, 1), (1, 1), (-3, 2), (MANY, 7)]:
            self.assertEqual(Plan(free=free).free, free)

    def test_last_out_of_bounds(self):
        for last in BAD_LASTS:
            self.refuses(BadPlan, {}, Plan, last=last)
            self.refuses(BadPlan, {}, Plan, last=last, free=None)

    def test_free_that_is_no_part(self):
        for free in NOT_PARTS:
            self.refuses(BadPlan, {}, Plan, free=free)
            self.refuses(BadPlan, {}, Plan, free=free, last=10)

    def test_by_name_alone(self):
        with self.assertRaises(TypeError):
            Plan(3)


class Deeds(Case):

    def test_keep_last(self):
        plan = Plan()
        for last in (10, 0, 3, 3):
            plan.keep_last(last)
            self.assertEqual(plan.last, last)

    def test_leave_and_bring(self):
        plan = Plan()
        for year in YEARS:
            for step in range(6):
                plan.leave(year, step)
                self.assertEqual(plan.lefts(), [(year, step)])
                plan.bring(year, step)
                self.assertEqual(plan.lefts(), [])

    def test_lefts_are_sorted(self):
        plan = Plan()
        for year, step in [(2003, 0), (-1, 5), (2001, 4), (2003, 5), (2001, 0), (MANY, 2), (2002, 3)]:
            plan.leave(year, step)
        self.assertEqual(plan.lefts(), [(-1, 5), (2001, 0), (2001, 4), (2002, 3), (2003, 0), (2003, 5), (MANY, 2)])
        plan.bring(2001, 4)
        self.assertEqual(plan.lefts(), [(-1, 5), (2001, 0), (2002, 3), (2003, 0), (2003, 5), (MANY, 2)])

    def test_picks_are_sorted_by_step(self):
        plan = Plan()
        for step, factor in [(5, (0, 1)), (0, (9, 1)), (3, (-1, 2)), (1, (5, 1))]:
            plan.pick(step, factor)
        self.assertEqual(plan.picks(), [(0, (9, 1)), (1, (5, 1)), (3, (-1, 2)), (5, (0, 1))])
        plan.unpick(1)
        self.assertEqual(plan.picks(), [(0, (9, 1)), (3, (-1, 2)), (5, (0, 1))])

    def test_pick_stands_in_the_place_of_the_one_before(self):
        plan = Plan()
        plan.pick(2, (3, 2))
        plan.pick(2, (5, 2))
        self.assertEqual(plan.picks(), [(2, (5, 2))])
        plan.unpick(2)
        self.assertEqual(plan.picks(), [])

    def test_deeds_tell_nothing(self):
        plan = Plan()
        told = [plan.keep_last(2), plan.leave(1, 1), plan.bring(1, 1), plan.pick(1, (1, 1)), plan.unpick(1),
                plan.take_back()]
        self.assertEqual(told, [None] * 6)

    def test_by_name(self):
        plan = Plan()
        plan.keep_last(last=3)
        plan.leave(step=1, year=2001)
        plan.bring(step=1, year=2001)
        plan.pick(factor=(1, 2), step=0)
        plan.unpick(step=0)
        self.assertEqual(shown(plan), shown(Plan(last=3)))

    def test_lists_are_told_anew(self):
        plan = full_plan()
        self.leaves_all_alone(plan.lefts)
        self.leaves_all_alone(plan.picks)


class Refused(Case):

    def setUp(self):
        self.plan = full_plan()
        self.before = shown(self.plan)

    def refuses_deed(self, deed, *given):
        self.refuses(BadPlan, {}, deed, *given)
        self.assertEqual(shown(self.plan), self.before)

    def tearDown(self):
        # No refused deed is one to take back: just the three of full_plan are.
        for _ in range(3):
            self.plan.take_back()
        self.assertEqual(shown(self.plan), shown(Plan(last=4, free=(1, 2))))
        self.refuses(NothingBack, {}, self.plan.take_back)

    def test_keep_last(self):
        for last in BAD_LASTS:
            self.refuses_deed(self.plan.keep_last, last)

    def test_steps(self):
        for step in BAD_STEPS:
            self.refuses_deed(self.plan.leave, 2001, step)
            self.refuses_deed(self.plan.bring, 2001, step)
            self.refuses_deed(self.plan.pick, step, (1, 1))
            self.refuses_deed(self.plan.unpick, step)

    def test_years(self):
        for year in NOT_WHOLE:
            self.refuses_deed(self.plan.leave, year, 0)
            self.refuses_deed(self.plan.bring, year, 0)

    def test_truths_are_no_years_and_no_steps(self):
        self.plan.leave(1, 1)
        self.before = shown(self.plan)
        for year, step in [(True, 1), (1, True), (True, True)]:
            self.refuses_deed(self.plan.bring, year, step)
        self.plan.take_back()

    def test_factors(self):
        for factor in NOT_PARTS:
            for step in (0, 2):
                self.refuses_deed(self.plan.pick, step, factor)

    def test_leave_what_is_left_out(self):
        for year, step in ((2003, 1), (2001, 0)):
            self.refuses_deed(self.plan.leave, year, step)

    def test_bring_what_is_not_left_out(self):
        for year, step in ((2003, 0), (2001, 1), (2002, 1), (-2003, 1)):
            self.refuses_deed(self.plan.bring, year, step)

    def test_unpick_what_is_not_picked(self):
        for step in (0, 1, 3, 4, 5):
            self.refuses_deed(self.plan.unpick, step)

    def test_bring_and_unpick_twice(self):
        self.plan.bring(2003, 1)
        self.plan.unpick(2)
        self.before = shown(self.plan)
        self.refuses_deed(self.plan.bring, 2003, 1)
        self.refuses_deed(self.plan.unpick, 2)
        self.plan.take_back()
        self.plan.take_back()


class TakingBack(Case):

    def test_nothing_to_take_back(self):
        for plan in (Plan(), Plan(last=3, free=(2, 1))):
            before = shown(plan)
            self.refuses(NothingBack, {}, plan.take_back)
            self.assertEqual(shown(plan), before)

    def test_each_deed_back_to_front(self):
        plan = Plan(last=2, free=(3, 1))
        deeds = [
            (plan.keep_last, 5), (plan.keep_last, 5), (plan.keep_last, 0),
            (plan.leave, 2001, 0), (plan.leave, 2002, 0), (plan.bring, 2001, 0), (plan.leave, 2001, 0),
            (plan.pick, 1, (1, 2)), (plan.pick, 1, (1, 2)), (plan.pick, 1, (0, 1)), (plan.pick, 0, (7, 3)),
            (plan.unpick, 1), (plan.pick, 1, (4, 1)), (plan.bring, 2002, 0), (plan.unpick, 0), (plan.keep_last, 9),
        ]
        stood = []
        for deed, *given in deeds:
            stood.append(shown(plan))
            deed(*given)
        while stood:
            plan.take_back()
            self.assertEqual(shown(plan), stood.pop())
        self.refuses(NothingBack, {}, plan.take_back)
        self.assertEqual(shown(plan), shown(Plan(last=2, free=(3, 1))))

    def test_the_same_last_is_a_deed(self):
        plan = Plan(last=3)
        plan.leave(2001, 0)
        plan.keep_last(3)
        plan.take_back()
        self.assertEqual((plan.last, plan.lefts()), (3, [(2001, 0)]))
        plan.take_back()
        self.assertEqual((plan.last, plan.lefts()), (3, []))

    def test_the_same_factor_is_a_deed(self):
        plan = Plan()
        plan.pick(3, (5, 4))
        plan.pick(3, (5, 4))
        plan.take_back()
        self.assertEqual(plan.picks(), [(3, (5, 4))])
        plan.take_back()
        self.assertEqual(plan.picks(), [])

    def test_factor_of_nought_comes_back(self):
        plan = Plan()
        plan.pick(0, (0, 1))
        plan.unpick(0)
        plan.take_back()
        self.assertEqual(plan.picks(), [(0, (0, 1))])

    def test_deeds_go_on_behind_what_was_taken_back(self):
        plan = Plan()
        plan.leave(2001, 0)
        plan.keep_last(4)
        plan.take_back()
        plan.pick(0, (2, 1))
        plan.take_back()
        self.assertEqual(shown(plan)[1:], (0, (1, 1), [(2001, 0)], []))
        plan.take_back()
        self.assertEqual(shown(plan), shown(Plan()))


class Twins(Case):

    def test_twin_stands_alike(self):
        plan = full_plan()
        plan.keep_last(10)
        twin = plan.twin()
        self.assertIsInstance(twin, Plan)
        self.assertEqual(shown(twin), shown(plan))

    def test_twin_has_no_deed_to_take_back(self):
        twin = full_plan().twin()
        before = shown(twin)
        self.refuses(NothingBack, {}, twin.take_back)
        self.assertEqual(shown(twin), before)

    def test_the_plan_keeps_its_deeds(self):
        plan = full_plan()
        plan.twin()
        for _ in range(3):
            plan.take_back()
        self.assertEqual(plan.lefts() + plan.picks(), [])

    def test_each_stands_for_itself(self):
        plan = full_plan()
        twin = plan.twin()
        before = shown(plan)
        twin.keep_last(1)
        twin.bring(2001, 0)
        twin.leave(2009, 5)
        twin.pick(2, (9, 1))
        twin.pick(0, (1, 9))
        self.assertEqual(shown(plan), before)
        stood = shown(twin)
        plan.keep_last(7)
        plan.leave(2005, 0)
        plan.bring(2003, 1)
        plan.unpick(2)
        self.assertEqual(shown(twin), stood)

    def test_a_twin_takes_back_its_own_deeds(self):
        plan = full_plan()
        twin = plan.twin()
        twin.bring(2003, 1)
        twin.pick(2, (1, 1))
        twin.take_back()
        twin.take_back()
        self.assertEqual(shown(twin), shown(plan))
        self.refuses(NothingBack, {}, twin.take_back)
