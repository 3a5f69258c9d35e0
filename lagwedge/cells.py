"""From a book to wedges: what is counted in which cell, and where what is still to come is from."""

from lagwedge.book import check_branch
from lagwedge.deeds import is_book_year
from lagwedge.developed import ends
from lagwedge.errors import BadDeed, NoRow
from lagwedge.kinds import check_kind
from lagwedge.parts import NOUGHT, minus, part, plus, times, total
from lagwedge.slopes import slopes
from lagwedge.wedge import Wedge, last_known
from lagwedge.whole import is_within


def wedge_of(book, branch, kind, look, *, known=None):
    """Tell the wedge of a book's movements up to a look."""
    return wedge_by(book, look, moved_until(book, branch, kind, look, known))


def diagonal(book, branch, kind, at, *, known=None):
    """Tell all movements of one year added, as a whole number."""
    moved = moved_until(book, branch, kind, at, known)
    return sum([amount for row, damage, year, when, amount in moved if when == at])


def wedge_without(book, damage, branch, kind, look, *, known=None):
    """Tell the wedge without what counts for one damage."""
    moved = moved_until(book, branch, kind, look, known)
    book.about(damage, known=known)
    return wedge_by(book, look, [movement for movement in moved if movement[1] != damage])


def by_damage(book, branch, kind, look, *, known=None):
    """Tell for each damage that has a movement in the wedge what is still to come from it."""
    moved = moved_until(book, branch, kind, look, known)
    sloping = slopes(wedge_by(book, look, moved))
    found = {}
    for row, damage, year, at, amount in moved:
        slope = sloping[year - book.first][lag_of(book, year, at)]
        found[damage] = plus(found.get(damage, NOUGHT), times(part(amount), slope))
    return [(number, found[number]) for number in sorted(list(found))]


def between(book, branch, kind, look, start, end):
    """Tell for each row behind the first so many what it adds to the sum of all ends."""
    check_asked(book, branch, kind, look)
    if not is_within(start, 0, len(book)):
        raise NoRow(start)
    if not is_within(end, start, len(book)):
        raise NoRow(end)
    sums = [total(ends(wedge_of(book, branch, kind, look, known=known))) for known in range(start, end + 1)]
    return [(row, minus(sums[row - start], sums[row - start - 1])) for row in range(start + 1, end + 1)]


def check_asked(book, branch, kind, year):
    """Refuse a kind, and then a branch or a year, that a book has no wedge of."""
    check_kind(kind)
    check_branch(branch)
    if not is_book_year(book.first, year):
        raise BadDeed()


def moved_until(book, branch, kind, look, known):
    """Tell a book's movements up to a look."""
    check_asked(book, branch, kind, look)
    return [movement for movement in book.movements(kind, branch, known=known) if movement[3] <= look]


def lag_of(book, year, at):
    """Tell the lag at which a movement is counted: the last one stands for all later ones."""
    return min(at - year, book.depth)


def wedge_by(book, look, moved):
    """Tell the wedge up to a look in which movements are counted."""
    years = look - book.first + 1
    cells = [[0] * (last_known(years, book.depth, place) + 1) for place in range(years)]
    for row, damage, year, at, amount in moved:
        cells[year - book.first][lag_of(book, year, at)] += amount
    return Wedge(book.first, book.depth, [[part(cell) for cell in counted] for counted in cells])
