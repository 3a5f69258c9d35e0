"""The document's words reckoned plainly, in fractions of Python's own, to hold the program against."""

from fractions import Fraction
from itertools import accumulate

from tests.samples import as_fractions


def sums_of(wedge):
    return [list(accumulate(row)) for row in as_fractions(wedge.rows())]


def step_of(wedge, step, last=0, lefts=(), picks=(), free=Fraction(1)):
    """Kind, below, above and factor of a step."""
    sums = sums_of(wedge)
    knowing = [place for place in range(len(sums)) if len(sums[place]) >= step + 2]
    latest = [place for place in knowing if last == 0 or len([later for later in knowing if later > place]) < last]
    counted = [place for place in latest if (wedge.first + place, step) not in lefts]
    below = sum((sums[place][step] for place in counted), Fraction(0))
    above = sum((sums[place][step + 1] for place in counted), Fraction(0))
    if step in dict(picks):
        return ("picked", below, above, dict(picks)[step])
    if below:
        return ("one", below, above, above / below)
    return ("none", below, above, None) if above else ("any", below, above, free)


def steps_of(wedge, **how):
    return [step_of(wedge, step, **how) for step in range(wedge.depth)]


def factors_of(wedge, **how):
    """The factors, or the first step that has none."""
    found = [factor for _, _, _, factor in steps_of(wedge, **how)]
    return found.index(None) if None in found else found


def developed_of(wedge, leading):
    """The developed table by given factors."""
    table = []
    for row in sums_of(wedge):
        while len(row) <= wedge.depth:
            row.append(row[-1] * leading[len(row) - 1])
        table.append(row)
    return table


def shared_plainly(leading):
    """One over the product of the factors from each lag on."""
    found = []
    for lag in range(len(leading) + 1):
        product_behind = Fraction(1)
        for factor in leading[lag:]:
            product_behind *= factor
        found.append(1 / product_behind)
    return found
