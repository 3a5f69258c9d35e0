"""Ways to take factors, each as a plan and as plainly reckoned."""

from fractions import Fraction

from lagwedge.errors import NoFactor, NoSplit
from lagwedge.plan import Plan
from tests.plainly import factors_of, steps_of
from tests.samples import all_wedges, pair

# Years that no wedge of the samples has stand among those left out, and steps beyond most depths.
LEFTS = [(1991, 0), (1993, 1), (1994, 0), (1996, 5), (1998, 2), (2001, 0), (2002, 0), (2002, 1), (3, 2),
         (9998, 0), (-5, 0), (12000, 1)]
PICKS = [(0, Fraction(3, 2)), (2, Fraction(-1, 3)), (5, Fraction(7))]
FREE = Fraction(5, 7)

HOWS = [
    {}, {"last": 1}, {"last": 2}, {"last": 3}, {"last": 10}, {"free": FREE}, {"free": Fraction(0)},
    {"lefts": LEFTS}, {"picks": PICKS}, {"last": 1, "lefts": LEFTS}, {"last": 2, "lefts": LEFTS, "free": FREE},
    {"last": 4, "lefts": LEFTS, "picks": PICKS, "free": Fraction(-2)},
]


def planned(last=0, lefts=(), picks=(), free=Fraction(1)):
    """A plan that takes factors so."""
    plan = Plan(last=last, free=pair(free))
    for year, step in lefts:
        plan.leave(year, step)
    for step, factor in picks:
        plan.pick(step, pair(factor))
    return plan


def refused_how():
    """All wedges by all ways that are refused, each with the refusal that is due."""
    for wedge in all_wedges():
        for how in HOWS:
            leading = factors_of(wedge, **how)
            if not isinstance(leading, list):
                _, below, above, _ = steps_of(wedge, **how)[leading]
                yield wedge, how, NoFactor, {"step": leading, "below": pair(below), "above": pair(above)}
            elif 0 in leading:
                yield wedge, how, NoSplit, {"step": leading.index(0)}


def granted_how():
    """All wedges by all ways that shares can be told by, each with its factors."""
    for wedge in all_wedges():
        for how in HOWS:
            leading = factors_of(wedge, **how)
            if isinstance(leading, list) and 0 not in leading:
                yield wedge, how, leading
