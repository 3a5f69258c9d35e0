"""Points 21 to 25: rounds, sizes, rates, and the ways to an end by their names."""

from fractions import Fraction

from lagwedge.developed import ends
from lagwedge.errors import BadPlan, BadSizes, NoFactor, NoMethod, NoRate, NoSplit, Unlike
from lagwedge.methods import by_name, compared, even, one_rate, prior, rates
from lagwedge.parts import NOUGHT, minus, order, plus, times, total
from lagwedge.plan import Plan
from lagwedge.wedge import Wedge
from tests.cases import Case
from tests.hows import HOWS, granted_how, planned, refused_how
from tests.plainly import developed_of, shared_plainly, sums_of
from tests.samples import (
    MANY, NOT_PARTS, NOT_WHOLE, all_wedges, as_fractions, fractions, pair, pairs, sample_rows, wedge_of_cells)

# The factors are 13/10 and 9/5, the shares 50/117, 5/9 and 1.
PLAIN = wedge_of_cells(2001, 2, [[4, 2, 3], [6, 3, 9], [10, 1], [5]])
NO_FACTOR = wedge_of_cells(2001, 1, [[0, 5], [3]])
NO_SPLIT = wedge_of_cells(2001, 1, [[5, -5], [3]])
SIZES = [(10, 1), (20, 1), (30, 1), (25, 1)]
NAMES = ("ladder", "even", "one rate", "prior")
BAD_LISTS = [None, True, 4, "abcd", tuple(SIZES), {0: 1, 1: 1, 2: 1, 3: 1}, [], SIZES[:3], SIZES + [(1, 1)], [None] * 5]


def sizes_for(wedge):
    return pairs(Fraction(3 * place + 2, place % 3 + 1) for place in range(len(wedge)))


def begins_for(wedge):
    """Parts of either sign, nought among them."""
    return pairs(Fraction(5 * place - 5, place % 4 + 1) for place in range(len(wedge)))


def shares_ahead(wedge, leading):
    found = shared_plainly(leading)
    return [found[len(row) - 1] for row in wedge.rows()]


class Priors(Case):

    def test_one_round_where_none_is_told(self):
        begins = pairs([100, -3, 9, 0])
        # What isn't shared out yet is 0, 0, 4/9 and 67/117.
        self.assertEqual(prior(PLAIN, begins), pairs([9, 18, 15, 5]))
        self.assertEqual(prior(PLAIN, begins, rounds=1), prior(PLAIN, begins))
        self.assertEqual(prior(PLAIN, pairs([1, 1, 1, 117])), pairs([9, 18, Fraction(103, 9), 72]))

    def test_no_round(self):
        begins = begins_for(PLAIN)
        told = prior(PLAIN, begins, rounds=0)
        self.assertEqual(told, begins)
        told.clear()
        self.assertEqual(begins, begins_for(PLAIN))

    def test_rounds_against_plain_reckoning(self):
        for wedge, how, leading in granted_how():
            ahead = shares_ahead(wedge, leading)
            latest = [row[-1] for row in sums_of(wedge)]
            numbers = fractions(begins_for(wedge))
            for rounds in range(4):
                told = prior(wedge, begins_for(wedge), plan=planned(**how), rounds=rounds)
                self.assertEqual(told, pairs(numbers))
                numbers = [known + (1 - share) * one for known, share, one in zip(latest, ahead, numbers)]

    def test_each_round_nearer_the_end(self):
        for wedge, how, leading in list(granted_how())[::7]:
            ahead = shares_ahead(wedge, leading)
            last = [row[-1] for row in developed_of(wedge, leading)]
            first = [begin - end for begin, end in zip(fractions(begins_for(wedge)), last)]
            for rounds in (0, 1, 5, 12):
                told = fractions(prior(wedge, begins_for(wedge), plan=planned(**how), rounds=rounds))
                self.assertEqual([one - end for one, end in zip(told, last)],
                                 [(1 - share) ** rounds * off for share, off in zip(ahead, first)])

    def test_begun_with_the_ends(self):
        for rounds in range(13):
            self.assertEqual(prior(PLAIN, ends(PLAIN), rounds=rounds), ends(PLAIN))

    def test_by_a_plan(self):
        plan = Plan()
        plan.pick(0, (2, 1))
        plan.pick(1, (4, 1))
        self.assertEqual(prior(PLAIN, pairs([8] * 4), plan=plan), pairs([9, 18, 17, 12]))

    def test_nothing_is_changed_or_kept(self):
        for rounds in (0, 1, 3):
            self.leaves_all_alone(prior, PLAIN, begins_for(PLAIN), rounds=rounds, plan=planned(last=2))
            self.keeps_nothing(prior, PLAIN, begins_for(PLAIN), rounds=rounds)


class RefusedPriors(Case):

    def test_rounds(self):
        for rounds in [-1, 13, MANY, -MANY, *NOT_WHOLE]:
            self.refuses(BadPlan, {}, prior, PLAIN, SIZES, rounds=rounds)
            self.refuses(BadPlan, {}, prior, NO_FACTOR, None, rounds=rounds)

    def test_begins_that_are_no_such_list(self):
        for begins in BAD_LISTS:
            self.refuses(BadSizes, {"row": -1}, prior, PLAIN, begins)
            self.refuses(BadSizes, {"row": -1}, prior, PLAIN, begins, rounds=0)

    def test_begins_that_are_no_parts(self):
        for wrong in NOT_PARTS:
            for place in range(4):
                begins = list(SIZES)
                begins[place] = wrong
                self.refuses(BadSizes, {"row": place}, prior, PLAIN, begins)

    def test_the_least_bad_row(self):
        self.refuses(BadSizes, {"row": 1}, prior, PLAIN, [(1, 1), (2, 4), None, True])
        self.refuses(BadSizes, {"row": 2}, prior, PLAIN, [(0, 1), (-1, 2), None, True])

    def test_begins_may_be_any_parts(self):
        for begins in ([NOUGHT] * 4, pairs([-1, -2, -3, -4])):
            self.assertEqual(len(prior(PLAIN, begins)), 4)

    def test_begins_go_ahead_of_shares(self):
        for wedge in (NO_FACTOR, NO_SPLIT):
            self.refuses(BadSizes, {"row": -1}, prior, wedge, [])
            self.refuses(BadSizes, {"row": 1}, prior, wedge, [(1, 1), (1, 0)])

    def test_as_shares_does(self):
        for wedge, how, kind, fields in refused_how():
            self.refuses(kind, fields, prior, wedge, begins_for(wedge), plan=planned(**how))
            self.refuses(kind, fields, prior, wedge, begins_for(wedge), plan=planned(**how), rounds=0)


class RefusedSizes(Case):

    def sized(self):
        """All that takes sizes, of a wedge with four years, and of ones that are refused behind the sizes."""
        calls = [lambda sizes: rates(PLAIN, sizes), lambda sizes: even(PLAIN, sizes)]
        plan = Plan()
        plan.pick(0, NOUGHT)
        for taken in (None, plan):
            calls.append(lambda sizes, taken=taken: one_rate(PLAIN, sizes, plan=taken))
            for word in NAMES:
                calls.append(lambda sizes, taken=taken, word=word: by_name(word, PLAIN, sizes, plan=taken))
        return calls

    def test_no_such_list(self):
        for call in self.sized():
            for sizes in BAD_LISTS:
                self.refuses(BadSizes, {"row": -1}, call, sizes)

    def test_no_part_or_none_above_nought(self):
        for call in self.sized():
            for wrong in [*NOT_PARTS, NOUGHT, (-1, 1), (-1, 7)]:
                for place in range(4):
                    sizes = list(SIZES)
                    sizes[place] = wrong
                    self.refuses(BadSizes, {"row": place}, call, sizes)

    def test_the_least_bad_row(self):
        for call in self.sized():
            self.refuses(BadSizes, {"row": 0}, call, [NOUGHT, None, None, None])
            self.refuses(BadSizes, {"row": 1}, call, [(1, 1), None, NOUGHT, (-1, 1)])
            self.refuses(BadSizes, {"row": 2}, call, [(1, 1), (1, 3), (-1, 1), [1, 2]])

    def test_ahead_of_shares(self):
        for wedge in (NO_FACTOR, NO_SPLIT):
            for sizes, row in (([], -1), ([(1, 1), NOUGHT], 1)):
                self.refuses(BadSizes, {"row": row}, one_rate, wedge, sizes)
                for word in NAMES:
                    self.refuses(BadSizes, {"row": row}, by_name, word, wedge, sizes)


class Rates(Case):

    def test_plain(self):
        self.assertEqual(rates(PLAIN, SIZES), pairs([Fraction(25, 85), Fraction(6, 60), Fraction(12, 30)]))
        self.assertEqual(rates(wedge=PLAIN, sizes=SIZES), rates(PLAIN, SIZES))

    def test_a_lag_that_no_year_knows(self):
        wedge = wedge_of_cells(2001, 3, [[4, 2], [8]])
        self.assertEqual(rates(wedge, [(2, 1), (4, 1)]), pairs([2, 1, 0, 0]))

    def test_against_plain_reckoning(self):
        for wedge in all_wedges():
            cells, sizes = as_fractions(wedge.rows()), fractions(sizes_for(wedge))
            expected = []
            for lag in range(wedge.depth + 1):
                knowing = [place for place, row in enumerate(cells) if lag < len(row)]
                insured = sum(sizes[place] for place in knowing)
                expected.append(sum(cells[place][lag] for place in knowing) / insured if knowing else Fraction(0))
            self.assertEqual(rates(wedge, sizes_for(wedge)), pairs(expected))

    def test_no_factor_is_asked(self):
        self.assertEqual(rates(NO_FACTOR, [(1, 1), (2, 1)]), pairs([1, 5]))
        self.assertEqual(even(NO_FACTOR, [(1, 1), (2, 1)]), pairs([5, 13]))


class Even(Case):

    def test_plain(self):
        self.assertEqual(even(PLAIN, SIZES), pairs([9, 18, 11 + 30 * Fraction(2, 5), 5 + 25 * Fraction(1, 2)]))

    def test_against_plain_reckoning(self):
        for wedge in all_wedges():
            found, sizes = fractions(rates(wedge, sizes_for(wedge))), fractions(sizes_for(wedge))
            expected = []
            for row, size in zip(sums_of(wedge), sizes):
                expected.append(row[-1] + sum(size * found[lag] for lag in range(len(row), wedge.depth + 1)))
            self.assertEqual(even(wedge, sizes_for(wedge)), pairs(expected))

    def test_even_ends_add(self):
        for depth in range(1, 7):
            for years in range(1, 11):
                one = Wedge(2001, depth, sample_rows(years, depth, 2))
                other = Wedge(2001, depth, sample_rows(years, depth, 9))
                sizes = sizes_for(one)
                added = [plus(mine, theirs) for mine, theirs in zip(even(one, sizes), even(other, sizes))]
                self.assertEqual(even(one.joined(other), sizes), added)

    def test_nothing_is_changed_or_kept(self):
        for call in (rates, even, one_rate):
            self.leaves_all_alone(call, PLAIN, list(SIZES))
            self.keeps_nothing(call, PLAIN, list(SIZES))


class OneRate(Case):

    def test_plain(self):
        plan = Plan()
        plan.pick(0, (2, 1))
        plan.pick(1, (2, 1))
        # The shares ahead are 1, 1, 1/2 and 1/4: 43 over 10 + 20 + 15 + 25/4.
        rate = Fraction(172, 205)
        expected = pairs([9, 18, 11 + rate * 15, 5 + rate * Fraction(75, 4)])
        self.assertEqual(one_rate(PLAIN, SIZES, plan=plan), (pair(rate), expected))

    def test_against_plain_reckoning(self):
        told = 0
        for wedge, how, leading in granted_how():
            ahead, sizes = shares_ahead(wedge, leading), fractions(sizes_for(wedge))
            latest = [row[-1] for row in sums_of(wedge)]
            reached = sum(size * share for size, share in zip(sizes, ahead))
            if reached:
                rate = sum(latest) / reached
                expected = [known + (1 - share) * size * rate for known, share, size in zip(latest, ahead, sizes)]
                self.assertEqual(one_rate(wedge, sizes_for(wedge), plan=planned(**how)), (pair(rate), pairs(expected)))
                told += 1
        self.assertGreater(told, 1000)

    def test_as_one_round_of_prior(self):
        rate, told = one_rate(PLAIN, SIZES)
        self.assertEqual(told, prior(PLAIN, [times(size, rate) for size in SIZES]))

    def test_as_shares_does(self):
        for wedge, how, kind, fields in refused_how():
            self.refuses(kind, fields, one_rate, wedge, sizes_for(wedge), plan=planned(**how))

    def test_no_rate(self):
        # The factor is -1, so the share of lag 0 is, too.
        wedge = wedge_of_cells(2001, 1, [[5, -10], [3]])
        self.refuses(NoRate, {}, one_rate, wedge, [(2, 1), (2, 1)])
        self.refuses(NoRate, {}, by_name, "one rate", wedge, [(1, 3), (1, 3)])
        self.assertEqual(one_rate(wedge, [(3, 1), (2, 1)]), ((-2, 1), pairs([-5, -5])))
        self.assertEqual(by_name("prior", wedge, [(2, 1), (2, 1)]), pairs([-5, 7]))

    def test_shares_are_refused_ahead_of_the_rate(self):
        plan = Plan(free=(-1, 1))
        wedge = wedge_of_cells(2001, 2, [[5, -5], [3]])
        self.refuses(NoSplit, {"step": 0}, one_rate, wedge, [(1, 1), (1, 1)], plan=plan)


class ByName(Case):

    def test_the_four(self):
        for how in HOWS:
            plan = planned(**how)
            told = [by_name(word, PLAIN, SIZES, plan=plan) for word in NAMES]
            self.assertEqual(told, [ends(PLAIN, plan=plan), even(PLAIN, SIZES), one_rate(PLAIN, SIZES, plan=plan)[1],
                                    prior(PLAIN, SIZES, plan=plan, rounds=1)])

    def test_they_are_not_alike(self):
        told = [by_name(word, PLAIN, SIZES) for word in NAMES]
        self.assertEqual([told.count(one) for one in told], [1] * 4)
        self.assertEqual(told[0], ends(PLAIN))

    def test_without_a_plan(self):
        for word in NAMES:
            self.assertEqual(by_name(word, PLAIN, SIZES, plan=None), by_name(word, PLAIN, SIZES))
            self.assertEqual(by_name(wedge=PLAIN, word=word, sizes=SIZES), by_name(word, PLAIN, SIZES))

    def test_other_words(self):
        near = ["", "Ladder", "LADDER", "ladder ", " ladder", "ladde", "ladders", "even\n", "evens", "one_rate",
                "one  rate", "onerate", "one", "rate", "one rate ", "One rate", "priors", "Prior", "ends", "rates"]
        for word in [*near, *NOT_WHOLE, b"even", ["even"], ("even",), MANY]:
            self.refuses(NoMethod, {}, by_name, word, PLAIN, SIZES)

    def test_the_word_goes_ahead_of_all_else(self):
        for wedge in (NO_FACTOR, NO_SPLIT, PLAIN):
            self.refuses(NoMethod, {}, by_name, "eve", wedge, None)
            self.refuses(NoMethod, {}, by_name, "eve", wedge, [NOUGHT])

    def test_what_the_way_refuses(self):
        for wedge, how, kind, fields in refused_how():
            plan = planned(**how)
            for word in ("one rate", "prior"):
                self.refuses(kind, fields, by_name, word, wedge, sizes_for(wedge), plan=plan)
            if kind is NoFactor:
                self.refuses(kind, fields, by_name, "ladder", wedge, sizes_for(wedge), plan=plan)
            else:
                self.assertEqual(by_name("ladder", wedge, sizes_for(wedge), plan=plan), ends(wedge, plan=plan))
            self.assertEqual(by_name("even", wedge, sizes_for(wedge), plan=plan), even(wedge, sizes_for(wedge)))

    def test_nothing_is_changed_or_kept(self):
        for word in NAMES:
            self.leaves_all_alone(by_name, word, PLAIN, list(SIZES), plan=planned(last=3, lefts=[(2001, 0)]))
            self.keeps_nothing(by_name, word, PLAIN, list(SIZES))


class Compared(Case):

    def test_plain(self):
        told = compared(pairs([1, Fraction(1, 2), -3]), pairs([4, Fraction(-1, 3), -3]))
        self.assertEqual(told, (pairs([-3, Fraction(5, 6), 0]), (-13, 6)))
        self.assertEqual(compared(ones=[(1, 1)], others=[(3, 1)]), ([(-2, 1)], (-2, 1)))

    def test_empty_lists(self):
        self.assertEqual(compared([], []), ([], (0, 1)))

    def test_the_sum_is_that_of_the_differences(self):
        one, other = by_name("even", PLAIN, SIZES), by_name("prior", PLAIN, SIZES)
        less, added = compared(one, other)
        self.assertEqual(added, minus(total(one), total(other)))
        self.assertEqual([plus(*both) for both in zip(other, less)], one)
        self.assertEqual(order(added, NOUGHT), -order(compared(other, one)[1], NOUGHT))

    def test_unlike_lengths(self):
        for one, other in ((0, 1), (1, 0), (3, 4), (4, 3), (1, 10)):
            self.refuses(Unlike, {}, compared, [(1, 1)] * one, [(1, 1)] * other)

    def test_nothing_is_changed_or_kept(self):
        self.leaves_all_alone(compared, pairs([1, 2]), pairs([3, 5]))
        self.keeps_nothing(compared, pairs([1, 2]), pairs([3, 5]))
