"""How much what is still to come hangs on each known cell, and how two developed tables differ."""

from lagwedge.developed import developed
from lagwedge.errors import Unlike
from lagwedge.ladder import factors, steps
from lagwedge.parts import NOUGHT, ONE, minus, over, plus, times, total
from lagwedge.wedge import are_alike


def slopes(wedge):
    """Tell for each known cell how much the sum still to come grows by a small amount in it, over that amount."""
    leading = factors(wedge)
    behind = products_behind(leading)
    led = led_sums(wedge, leading)
    pulls = [pull(told, times(led[step], behind[step + 1])) for step, told in enumerate(steps(wedge))]
    # Years that know the same lags have the same slopes: a factor has a sum of all of them in its above and below.
    by_known = [row_slopes(known, behind[known], pulls) for known in range(wedge.known(wedge.first) + 1)]
    return [list(by_known[wedge.known(year)]) for year in wedge.years()]


def gap(one, other):
    """Tell for each year and lag the developed cell of the first wedge less that of the second."""
    if not are_alike(one, other):
        raise Unlike()
    table = developed(one)
    return [gap_row(mine, theirs) for mine, theirs in zip(table, developed(other))]


def products_behind(leading):
    """Tell for each lag the product of the factors of all steps from it on."""
    found = [ONE]
    for factor in reversed(leading):
        found.append(times(found[-1], factor))
    return list(reversed(found))


def led_sums(wedge, leading):
    """Tell for each step the developed sums that its factor is taken times, added."""
    found = []
    led = NOUGHT
    for lag, factor in enumerate(leading):
        newest = [latest for year, latest in zip(wedge.years(), wedge.latest()) if wedge.known(year) == lag]
        led = total(newest, start=led)
        found.append(led)
        led = times(led, factor)
    return found


def pull(told, led):
    """Tell how much the sum still to come grows through a step's factor: by a cell in both its below
    and above, and by one in its above alone."""
    kind, below, above, factor = told
    if kind == "any":
        return (NOUGHT, NOUGHT)
    # The slope of above over below: one over below by above, and less the factor over below by below.
    by_above = over(led, below)
    return (times(by_above, minus(ONE, factor)), by_above)


def row_slopes(known, behind, pulls):
    """Tell the slopes of a year's cells by its last known lag."""
    # What a cell adds to its own year's end, less what it adds to the last known sum.
    inner = minus(behind, ONE)
    found = []
    for lag in reversed(range(known + 1)):
        if lag < known:
            inner = plus(inner, pulls[lag][0])
        found.append(plus(inner, pulls[lag - 1][1]) if lag > 0 else inner)
    return list(reversed(found))


def gap_row(mine, theirs):
    """Tell the developed cells of one year less those of the other, by lag."""
    off = [minus(one, other) for one, other in zip(mine, theirs)]
    return [minus(one, ahead) for one, ahead in zip(off, [NOUGHT, *off])]
