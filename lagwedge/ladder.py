"""The factors that lead from each lag of a wedge to the next one."""

from lagwedge.errors import NoFactor, NoStep
from lagwedge.parts import NOUGHT, over, times, total
from lagwedge.plan import Plan
from lagwedge.wedge import knowing
from lagwedge.whole import is_within


def steps(wedge, *, plan=None):
    """Tell of each step its kind, below, above and factor."""
    taken = plan_or_plain(plan)
    sums = wedge.sums()
    return [told_step(wedge, sums, step, taken) for step in range(wedge.depth)]


def factors(wedge, *, plan=None):
    """Tell the factor of each step."""
    found = []
    for step, (kind, below, above, factor) in enumerate(steps(wedge, plan=plan)):
        if kind == "none":
            raise NoFactor(step, below, above)
        found.append(factor)
    return found


def agrees(wedge, step, factor, *, plan=None):
    """Tell whether a factor leads from below to above of a step."""
    refuse_far_step(wedge, step)
    below, above = margins(wedge, wedge.sums(), step, plan_or_plain(plan))
    return times(factor, below) == above


def refuse_far_step(wedge, step):
    """Refuse any thing that is no step of a wedge."""
    if not is_within(step, 0, wedge.depth - 1):
        raise NoStep(step)


def plan_or_plain(plan):
    """Tell the plan, or where there is none the one by which all years count and none is picked."""
    return Plan() if plan is None else plan


def told_step(wedge, sums, step, plan):
    """Tell the kind, below, above and factor of one step."""
    below, above = margins(wedge, sums, step, plan)
    picked = plan.picked_at(step)
    if picked is not None:
        return ("picked", below, above, picked)
    if below != NOUGHT:
        return ("one", below, above, over(above, below))
    if above != NOUGHT:
        return ("none", below, above, None)
    return ("any", below, above, plan.free)


def margins(wedge, sums, step, plan):
    """Tell below and above of a step."""
    rows = counted_sums(wedge, sums, step, plan)
    below = total([row[step] for row in rows])
    above = total([row[step + 1] for row in rows])
    return below, above


def counted_sums(wedge, sums, step, plan):
    """Tell the sums of the years that count at a step."""
    years = knowing(wedge, wedge.years(), step + 1)
    if plan.last > 0:
        years = years[-plan.last:]
    # The latest years are kept first: one that is left out of them isn't made up for by an elder one.
    return [sums[year - wedge.first] for year in years if not plan.leaves_out(year, step)]
