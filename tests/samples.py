"""Things that several tests hand in."""

from fractions import Fraction

from lagwedge.wedge import Wedge

MANY = 10 ** 5000
"""A number of so many figures that Python itself refuses to write it."""

NOT_WHOLE = [True, False, None, 1.0, "1", b"1", [1], (1,), (1, 1), {1: 1}, Fraction(1), object()]

NOT_PARTS = [
    True, False, None, 0, 1, 0.5, "1/2", "", [], [1, 2], (), (1,), (1, 2, 3), {1: 2}, Fraction(1, 2), object(),
    (True, 1), (False, 1), (1, True), (True, True), (1.0, 1), (1, 1.0), ("1", "2"), (None, 1), (1, None),
    ((1, 1), (2, 1)), ([1], 2),
    (2, 4), (-2, 4), (0, 2), (6, 3), (MANY, MANY), (2 * MANY, 4),
    (0, 0), (1, 0), (0, -1), (1, -2), (-1, -2),
]


def pair(fraction):
    """The part that a fraction of Python's own stands for."""
    return (fraction.numerator, fraction.denominator)


def known_cells(years, depth, place):
    """How many cells a year has, counted one by one."""
    return len([lag for lag in range(depth + 1) if place + lag <= years - 1])


def sample_fractions(years, depth, salt=0):
    """Cells of all signs, nought among them, whole and not."""
    return [[Fraction((7 * place + 5 * lag + salt) % 23 - 9, (3 * place + lag + salt) % 5 + 1)
             for lag in range(known_cells(years, depth, place))]
            for place in range(years)]


def as_rows(fractions):
    return [[pair(cell) for cell in row] for row in fractions]


def sample_rows(years, depth, salt=0):
    return as_rows(sample_fractions(years, depth, salt))


def as_fractions(rows):
    """Parts in lists and tuples as fractions of Python's own."""
    return [[Fraction(*cell) for cell in row] for row in rows]


def fractions(parts):
    return [Fraction(*one) for one in parts]


def pairs(numbers):
    """Numbers of Python's own as parts."""
    return [pair(Fraction(number)) for number in numbers]


def wedge_of_cells(first, depth, cells):
    """A wedge of whole numbers and fractions of Python's own."""
    return Wedge(first, depth, as_rows([[Fraction(cell) for cell in row] for row in cells]))


def strangest_wedges():
    """Wedges with columns that come to nought, alone or together, and with few years."""
    return [
        wedge_of_cells(2001, 1, [[0, 5], [3]]),
        wedge_of_cells(2001, 1, [[2, 1], [-2, 3], [1]]),
        wedge_of_cells(2001, 1, [[2, 1], [-2, -1], [4]]),
        wedge_of_cells(2001, 2, [[2, 1, 1], [5, -3, 0], [-7, 2], [4]]),
        wedge_of_cells(2001, 2, [[2, -2, 4], [5, 1], [7]]),
        wedge_of_cells(2001, 2, [[2, -2, 0], [5, 1], [7]]),
        wedge_of_cells(2001, 2, [[2, 3, -5], [5, 1], [7]]),
        wedge_of_cells(2001, 2, [[0, 0, 0], [0, 0, 0], [0, 0], [0]]),
        wedge_of_cells(0, 3, [[0, 0, 0, 0], [1, 2, 3, 4], [-1, -2, -3], [6, 5], [4]]),
        wedge_of_cells(9999, 6, [[7]]),
        wedge_of_cells(9999, 6, [[0]]),
        wedge_of_cells(9998, 6, [[7, 3], [-4]]),
        wedge_of_cells(9997, 6, [[Fraction(1, 2), 3, Fraction(-1, 3)], [-4, 5], [1]]),
    ]


def all_wedges():
    """Wedges of every shape with cells of either sign, and the strangest ones."""
    plain = [Wedge(1990 + depth, depth, sample_rows(years, depth, salt))
             for depth in range(1, 7) for years in range(1, 11) for salt in (0, 3, 11)]
    return plain + strangest_wedges()


def growing_cells(years, depth, salt=0):
    """Cells whose sums are all above nought, some of them below nought themselves."""
    return [[Fraction((7 * place + 5 * lag + salt) % 9 + (25 if lag == 0 else -3), (place + salt) % 4 + 1)
             for lag in range(known_cells(years, depth, place))]
            for place in range(years)]


def growing_wedges():
    """Wedges of every shape whose known sums are all above nought."""
    return [Wedge(2001, depth, as_rows(growing_cells(years, depth, salt)))
            for depth in range(1, 7) for years in range(1, 11) for salt in (0, 5)]
