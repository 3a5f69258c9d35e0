"""Other ways to an end than the ladder: begun with a guess, or by what was insured."""

from lagwedge.developed import ends
from lagwedge.errors import BadPlan, BadSizes, NoMethod, NoRate, Unlike
from lagwedge.parts import NOUGHT, ONE, is_part, minus, over, plus, times, total
from lagwedge.split import shares
from lagwedge.wedge import cell_sum, knowing
from lagwedge.whole import is_within

MOST_ROUNDS = 12
WAYS = ("ladder", "even", "one rate", "prior")


def prior(wedge, begins, *, plan=None, rounds=1):
    """Begin with a part for each year, and bring it nearer the ladder's end round by round."""
    if not is_within(rounds, 0, MOST_ROUNDS):
        raise BadPlan()
    check_begins(wedge, begins)
    ahead = shares_ahead(wedge, plan)
    numbers = list(begins)
    for turn in range(rounds):
        numbers = one_round(wedge, numbers, ahead)
    return numbers


def rates(wedge, sizes):
    """Tell for each lag the sum of its known cells over the sizes of the years that know it."""
    check_sizes(wedge, sizes)
    return [rate_at(wedge, sizes, lag) for lag in range(wedge.depth + 1)]


def even(wedge, sizes):
    """Tell ends by sizes and rates alone."""
    found = rates(wedge, sizes)
    behind = [total(found[wedge.known(year) + 1:]) for year in wedge.years()]
    return [plus(latest, times(size, rate)) for latest, size, rate in zip(wedge.latest(), sizes, behind)]


def one_rate(wedge, sizes, *, plan=None):
    """Tell one rate for all years, and the ends by one round begun with size times rate."""
    check_sizes(wedge, sizes)
    ahead = shares_ahead(wedge, plan)
    reached = total([times(size, share) for size, share in zip(sizes, ahead)])
    if reached == NOUGHT:
        raise NoRate()
    rate = over(wedge.whole_sum(), reached)
    begins = [times(size, rate) for size in sizes]
    return (rate, one_round(wedge, begins, ahead))


def by_name(word, wedge, sizes, *, plan=None):
    """Tell the ends by the way that a word names."""
    if word not in WAYS:
        raise NoMethod()
    check_sizes(wedge, sizes)
    if word == "ladder":
        return ends(wedge, plan=plan)
    if word == "even":
        return even(wedge, sizes)
    if word == "one rate":
        return one_rate(wedge, sizes, plan=plan)[1]
    return prior(wedge, sizes, plan=plan)


def compared(ones, others):
    """Tell the first parts less the second ones, place by place, and the sum of that."""
    if len(ones) != len(others):
        raise Unlike()
    less = [minus(one, other) for one, other in zip(ones, others)]
    return (less, total(less))


def shares_ahead(wedge, plan):
    """Tell for each year the share of its last known lag."""
    found = shares(wedge, plan=plan)
    return [found[wedge.known(year)] for year in wedge.years()]


def one_round(wedge, numbers, ahead):
    """Make of each number the last known sum and, of the number, what isn't shared out yet."""
    return [plus(latest, times(minus(ONE, share), number))
            for latest, share, number in zip(wedge.latest(), ahead, numbers)]


def rate_at(wedge, sizes, lag):
    """Tell the rate of one lag."""
    insured = total(knowing(wedge, sizes, lag))
    if insured == NOUGHT:
        # Sizes are above nought, so no year knows this lag.
        return NOUGHT
    return over(cell_sum(wedge, lag), insured)


def check_begins(wedge, begins):
    """Refuse what is no list of one part for each year."""
    check_length(wedge, begins)
    for place, begin in enumerate(begins):
        if not is_part(begin):
            raise BadSizes(place)


def check_sizes(wedge, sizes):
    """Refuse what is no list of one part above nought for each year."""
    check_length(wedge, sizes)
    for place, size in enumerate(sizes):
        if not is_part(size) or size[0] <= 0:
            raise BadSizes(place)


def check_length(wedge, things):
    """Refuse what is no list of as many things as a wedge has years."""
    if not isinstance(things, list) or len(things) != len(wedge):
        raise BadSizes(-1)
