"""Parts: fractions in lowest terms, as tuples of a top and a bottom above nought."""

from lagwedge.errors import BadPart, NoShare
from lagwedge.whole import is_whole, is_within

NOUGHT = (0, 1)
ONE = (1, 1)

FIGURES = "0123456789abcdef"
LEAST_BASE = 2
MOST_BASE = 16
MOST_SIGNS = 200

# Numbers of more bits than LONG are shortened by their heads alone, of HEAD bits, before they are divided whole.
LONG = 1024
HEAD = 512
# A little more than half of the head: behind it what the tails would turn begins to tell.
SURE = 264


def part(top, bottom=1):
    """Bring two whole numbers to a part."""
    if not is_whole(top) or not is_whole(bottom) or bottom == 0:
        raise BadPart()
    shared = shared_factor(top, bottom)
    if bottom < 0:
        shared = -shared
    return (top // shared, bottom // shared)


def shared_factor(one, other):
    """Tell the greatest whole number that goes into both."""
    one, other = abs(one), abs(other)
    while other != 0:
        one, other = other, one % other
        if other.bit_length() > LONG:
            one, other = shortened(one, other)
    return one


def shortened(one, other):
    """Tell two shorter numbers that share the same factors, of two long ones with the greater one ahead."""
    shift = one.bit_length() - HEAD
    head, behind = one >> shift, other >> shift
    # Whatever the heads tell, each turn takes one number some times from the other, which keeps what they share.
    up, across, down, along = 1, 0, 0, 1
    while behind >> SURE != 0:
        share, rest = divmod(head, behind)
        head, behind = behind, rest
        up, across, down, along = down, along, up - share * down, across - share * along
    return abs(up * one + across * other), abs(down * one + along * other)


def is_part(thing):
    """Tell of any thing whether it is a part."""
    if not isinstance(thing, tuple) or len(thing) != 2:
        return False
    top, bottom = thing
    if not is_whole(top) or not is_whole(bottom):
        return False
    return bottom > 0 and shared_factor(top, bottom) == 1


def plus(one, other):
    """Add two parts."""
    # Factors are taken out as early as can be: developed cells have many figures.
    shared = shared_factor(one[1], other[1])
    bottom = one[1] // shared
    top = one[0] * (other[1] // shared) + other[0] * bottom
    left = shared_factor(top, shared)
    return (top // left, bottom * (other[1] // left))


def minus(one, other):
    """Take the second part from the first."""
    return plus(one, (-other[0], other[1]))


def times(one, other):
    """Multiply two parts."""
    # Each part is in lowest terms already, so only a top and the other one's bottom can share a factor.
    down = shared_factor(one[0], other[1])
    up = shared_factor(other[0], one[1])
    return ((one[0] // down) * (other[0] // up), (one[1] // up) * (other[1] // down))


def over(one, other):
    """Share the first part by the second."""
    top, bottom = other
    if top == 0:
        raise NoShare()
    return times(one, (bottom, top) if top > 0 else (-bottom, -top))


def order(one, other):
    """Tell -1, 0 or 1 as the first part is less, the same or greater."""
    left = one[0] * other[1]
    right = other[0] * one[1]
    if left == right:
        return 0
    return -1 if left < right else 1


def total(parts, *, start=NOUGHT):
    """Add all parts to start."""
    added = start
    for one in parts:
        added = plus(added, one)
    return added


def shown_part(one, *, base=10):
    """Write a part by a base."""
    check_base(base)
    top, bottom = one
    if bottom == 1:
        return shown_whole(top, base)
    return shown_whole(top, base) + "/" + shown_whole(bottom, base)


def read_part(text, *, base=10):
    """Read a part from the one text that it is written as by a base."""
    check_base(base)
    if not isinstance(text, str) or len(text) > MOST_SIGNS:
        raise BadPart()
    top, stroke, bottom = text.removeprefix("-").partition("/")
    number = read_figures(top, base)
    if text.startswith("-"):
        number = -number
    found = part(number, read_figures(bottom, base) if stroke else 1)
    # Noughts ahead, a needless bottom, terms not lowest, missing figures: none of these is written.
    if shown_part(found, base=base) != text:
        raise BadPart()
    return found


def check_base(base):
    """Refuse a base that is no whole number of 2 to 16."""
    if not is_within(base, LEAST_BASE, MOST_BASE):
        raise BadPart()


def shown_whole(number, base):
    """Write a whole number of any size by a base."""
    # Not by str(): Python refuses to write numbers of more than a few thousand figures.
    if number == 0:
        return "0"
    sign = "-" if number < 0 else ""
    rest = abs(number)
    signs = []
    while rest != 0:
        rest, place = divmod(rest, base)
        signs.append(FIGURES[place])
    return sign + "".join(reversed(signs))


def read_figures(signs, base):
    """Tell the number that figures stand for, which is nought where there are none."""
    number = 0
    for sign in signs:
        place = FIGURES.find(sign, 0, base)
        if place < 0:
            raise BadPart()
        number = number * base + place
    return number
