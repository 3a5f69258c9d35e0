"""The book: rows of deeds, and what they tell of damages."""

from lagwedge.deeds import check_here, check_standing, check_told, is_branch, row_of
from lagwedge.errors import BadDeed, Full, NoRow, NothingBack
from lagwedge.kinds import check_kind, movements_of
from lagwedge.standing import Standing
from lagwedge.wedge import MOST_DEPTH, MOST_FIRST
from lagwedge.whole import is_within

MOST_ROWS = 120


class Book:
    """Ten years of damages. All that it tells is told from its rows."""

    def __init__(self, first, *, depth=6):
        if not is_within(first, 0, MOST_FIRST) or not is_within(depth, 1, MOST_DEPTH):
            raise BadDeed()
        self.first = first
        self.depth = depth
        self.written_rows = []
        self.undone_rows = []

    def notice(self, branch, year, at):
        """Notice a damage that fell in a year, and tell its number."""
        return self.do(("notice", branch, year, at))

    def pay(self, damage, at, amount):
        """Write down what was paid for a damage."""
        return self.do(("pay", damage, at, amount))

    def gain(self, damage, at, amount):
        """Write down what was got back of a damage."""
        return self.do(("gain", damage, at, amount))

    def guess(self, damage, at, amount):
        """Turn what is guessed to be owed still for a damage."""
        return self.do(("guess", damage, at, amount))

    def close(self, damage, at):
        """Close a damage, so that nothing is guessed of it any more."""
        return self.do(("close", damage, at))

    def reopen(self, damage, at):
        """Let a closed damage be as ones that never were closed."""
        return self.do(("reopen", damage, at))

    def shift(self, damage, year):
        """Let a damage have fallen in another year."""
        return self.do(("shift", damage, year))

    def merge(self, damage, into):
        """Let what counts for a damage count for another one, for they are the same."""
        return self.do(("merge", damage, into))

    def strike(self, row):
        """Let a row count no more."""
        return self.do(("strike", row))

    def drop(self, damage):
        """Let a damage be gone, and all that counts for it."""
        return self.do(("drop", damage))

    def do(self, deed):
        """Do a deed, told by its word and numbers, and tell its number: a damage's of notice, else its row's."""
        check_told(self.first, deed)
        if len(self.written_rows) == MOST_ROWS:
            raise Full(MOST_ROWS)
        standing = self.standing(None)
        check_standing(standing, deed)
        self.written_rows.append(row_of(standing, deed))
        self.undone_rows = []
        return len(standing.noticed) + 1 if deed[0] == "notice" else len(self.written_rows)

    def undo(self):
        """Take the last row out, and tell it."""
        if len(self.written_rows) == 0:
            raise NothingBack()
        self.undone_rows.append(self.written_rows.pop())
        return self.undone_rows[-1]

    def redo(self):
        """Put the row that was undone last in again, and tell it."""
        if len(self.undone_rows) == 0:
            raise NothingBack()
        self.written_rows.append(self.undone_rows.pop())
        return self.written_rows[-1]

    def rows(self):
        """Tell the rows."""
        return list(self.written_rows)

    def damages(self, *, known=None):
        """Tell the number, branch and year of each damage that isn't gone, and whether it's not closed."""
        standing = self.standing(known)
        return [told_damage(standing, number) for number in standing.numbers()]

    def about(self, number, *, known=None):
        """Tell of one damage what damages tells of it."""
        standing = self.standing(known)
        check_here(standing, [number])
        return told_damage(standing, number)

    def movements(self, kind, branch, *, known=None):
        """Tell the rows that count by a kind: row, damage, the year of that, at and amount."""
        check_kind(kind)
        check_branch(branch)
        standing = self.standing(known)
        return [movement for movement in movements_of(standing, kind)
                if branch is None or standing.damage(movement[1]).branch == branch]

    def standing(self, known):
        """Tell how the damages stand behind the first so many rows, or with None behind all."""
        if known is None:
            return Standing(self.written_rows)
        if not is_within(known, 0, len(self.written_rows)):
            raise NoRow(known)
        return Standing(self.written_rows[:known])

    def __len__(self):
        return len(self.written_rows)


def check_branch(branch):
    """Refuse what is neither a branch nor None, which stands for all of them."""
    if branch is not None and not is_branch(branch):
        raise BadDeed()


def told_damage(standing, number):
    """Tell a damage's number, branch and year, and whether it's not closed."""
    damage = standing.damage(number)
    return (number, damage.branch, damage.year, not damage.closed)
