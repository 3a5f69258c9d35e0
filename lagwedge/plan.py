"""Plans: how the factors of a wedge are taken."""

from lagwedge.errors import BadPlan, NothingBack
from lagwedge.parts import ONE, is_part
from lagwedge.whole import is_whole, is_within

MOST_LAST = 10
# A plan goes with wedges of any depth, so it takes the steps of the deepest one.
MOST_STEP = 5


class Plan:
    """How many of the latest years count, which are left out, and which factors are picked."""

    def __init__(self, *, last=0, free=ONE):
        check_last(last)
        check_factor(free)
        self.last = last
        self.free = free
        self.left = {}
        self.picked = {}
        self.deeds = []

    def keep_last(self, last):
        """Let the latest so many years alone count, or with nought all."""
        check_last(last)
        self.deeds.append(("last", 0, self.last))
        self.last = last

    def leave(self, year, step):
        """Leave a year out at a step."""
        check_year(year)
        check_step(step)
        if self.leaves_out(year, step):
            raise BadPlan()
        self.deeds.append(("left", (year, step), None))
        self.left[(year, step)] = True

    def bring(self, year, step):
        """Bring a year in again that was left out at a step."""
        check_year(year)
        check_step(step)
        if not self.leaves_out(year, step):
            raise BadPlan()
        self.deeds.append(("left", (year, step), True))
        del self.left[(year, step)]

    def pick(self, step, factor):
        """Pick a factor for a step, in the place of one picked before."""
        check_step(step)
        check_factor(factor)
        self.deeds.append(("picked", step, self.picked_at(step)))
        self.picked[step] = factor

    def unpick(self, step):
        """Take the picked factor of a step away."""
        check_step(step)
        if self.picked_at(step) is None:
            raise BadPlan()
        self.deeds.append(("picked", step, self.picked_at(step)))
        del self.picked[step]

    def take_back(self):
        """Undo the last deed that isn't undone yet."""
        if len(self.deeds) == 0:
            raise NothingBack()
        deed, key, former = self.deeds.pop()
        if deed == "last":
            self.last = former
        elif deed == "left":
            put_back(self.left, key, former)
        else:
            put_back(self.picked, key, former)

    def lefts(self):
        """Tell the pairs of a year and a step at which it is left out, sorted."""
        return sorted(list(self.left))

    def picks(self):
        """Tell the pairs of a step and the factor picked for it, by step."""
        return [(step, self.picked[step]) for step in sorted(list(self.picked))]

    def twin(self):
        """Tell a plan of its own that stands alike and has no deed to take back."""
        other = Plan(last=self.last, free=self.free)
        other.left = {pair: True for pair in self.left}
        other.picked = {step: self.picked[step] for step in self.picked}
        return other

    def leaves_out(self, year, step):
        """Tell whether a year is left out at a step."""
        return (year, step) in self.left

    def picked_at(self, step):
        """Tell the factor that is picked for a step, or None."""
        return self.picked.get(step)


def check_last(last):
    """Refuse a number of latest years that no plan keeps."""
    if not is_within(last, 0, MOST_LAST):
        raise BadPlan()


def check_year(year):
    """Refuse a year that is no whole number."""
    if not is_whole(year):
        raise BadPlan()


def check_step(step):
    """Refuse a step that no wedge has."""
    if not is_within(step, 0, MOST_STEP):
        raise BadPlan()


def check_factor(factor):
    """Refuse a factor that is no part."""
    if not is_part(factor):
        raise BadPlan()


def put_back(table, key, former):
    """Let a table hold at a key what it held ahead of a deed; None stands for nothing."""
    if former is None:
        del table[key]
    else:
        table[key] = former
