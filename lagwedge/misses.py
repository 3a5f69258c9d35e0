"""How far the known sums lie from what factors tell of them."""

from lagwedge.developed import developed
from lagwedge.errors import Few, NoMiss
from lagwedge.ladder import refuse_far_step, steps
from lagwedge.parts import NOUGHT, ONE, minus, order, over, part, plus, times, total
from lagwedge.wedge import knowing


def miss(wedge, step, factor):
    """Tell how far a factor misses the known sums of a step."""
    refuse_far_step(wedge, step)
    check_wedge(wedge)
    return step_miss(wedge, step, factor)


def least(wedge):
    """Tell for each step its weight, the factor that misses least, and the miss of it."""
    check_wedge(wedge)
    return [(below, factor, step_miss(wedge, step, factor))
            for step, (kind, below, above, factor) in enumerate(steps(wedge))]


def spreads(wedge):
    """Tell for each step how wide its known sums lie about its factor."""
    return spreads_of(wedge, least(wedge))


def unsure(wedge):
    """Tell for each year the square of how far its end may be off."""
    leading = least(wedge)
    weights = [weight for weight, factor, lowest in leading]
    wide = [over(spread, times(factor, factor))
            for spread, (weight, factor, lowest) in zip(spreads_of(wedge, leading), leading)]
    return [unsure_end(row, wedge.known(year), weights, wide)
            for row, year in zip(developed(wedge), wedge.years())]


def check_wedge(wedge):
    """Refuse a wedge of which no misses are told."""
    if len(wedge) < wedge.depth + 1:
        raise Few(len(wedge), wedge.depth + 1)
    for year, row in zip(wedge.years(), wedge.sums()):
        for lag, known in enumerate(row):
            if order(known, NOUGHT) != 1:
                raise NoMiss(year, lag)


def step_miss(wedge, step, factor):
    """Tell the miss of a factor, of a wedge that isn't refused."""
    rows = knowing(wedge, wedge.sums(), step + 1)
    return total([one_miss(row[step], row[step + 1], factor) for row in rows])


def one_miss(known, behind, factor):
    """Tell how far a factor misses the way from one known sum to the one behind it."""
    off = minus(behind, times(factor, known))
    return over(times(off, off), known)


def spreads_of(wedge, leading):
    """Tell the spread of each step from what least tells of it."""
    found = []
    for step, (weight, factor, lowest) in enumerate(leading):
        years = len(knowing(wedge, wedge.years(), step + 1))
        if years == 1:
            # One year alone lies just on its factor and tells nothing of how wide others lie.
            found.append(least_part(found))
        else:
            found.append(over(lowest, part(years - 1)))
    return found


def least_part(parts):
    """Tell the least of some parts, nought where there are none."""
    if len(parts) == 0:
        return NOUGHT
    lowest = parts[0]
    for one in parts:
        if order(one, lowest) == -1:
            lowest = one
    return lowest


def unsure_end(row, known, weights, wide):
    """Tell how unsure the end of a developed row is, whose sums behind a lag aren't known."""
    found = NOUGHT
    for step in range(known, len(weights)):
        thin = plus(over(ONE, row[step]), over(ONE, weights[step]))
        found = plus(found, times(wide[step], thin))
    return times(times(row[-1], row[-1]), found)
