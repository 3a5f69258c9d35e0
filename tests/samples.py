"""Things that several tests hand in."""

from fractions import Fraction

MANY = 10 ** 5000
"""A number of so many figures that Python itself refuses to write it."""

NOT_WHOLE = [True, False, None, 1.0, "1", b"1", [1], (1,), (1, 1), {1: 1}, Fraction(1), object()]

NOT_PARTS = [
    True, False, None, 0, 1, 0.5, "1/2", "", [], [1, 2], (), (1,), (1, 2, 3), {1: 2}, Fraction(1, 2), object(),
    (True, 1), (False, 1), (1, True), (True, True), (1.0, 1), (1, 1.0), ("1", "2"), (None, 1), (1, None),
    ((1, 1), (2, 1)), ([1], 2),
    (2, 4), (-2, 4), (0, 2), (6, 3), (MANY, MANY), (2 * MANY, 4),
    (0, 0), (1, 0), (0, -1), (1, -2), (-1, -2),
]


def pair(fraction):
    """The part that a fraction of Python's own stands for."""
    return (fraction.numerator, fraction.denominator)


def known_cells(years, depth, place):
    """How many cells a year has, counted one by one."""
    return len([lag for lag in range(depth + 1) if place + lag <= years - 1])


def sample_fractions(years, depth, salt=0):
    """Cells of all signs, nought among them, whole and not."""
    return [[Fraction((7 * place + 5 * lag + salt) % 23 - 9, (3 * place + lag + salt) % 5 + 1)
             for lag in range(known_cells(years, depth, place))]
            for place in range(years)]


def as_rows(fractions):
    return [[pair(cell) for cell in row] for row in fractions]


def sample_rows(years, depth, salt=0):
    return as_rows(sample_fractions(years, depth, salt))
