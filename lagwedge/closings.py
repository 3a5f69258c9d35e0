"""Closings: what was booked as still to come, and what came of it by the next closing."""

from lagwedge.book import check_branch
from lagwedge.cells import wedge_of
from lagwedge.deeds import BOOK_YEARS
from lagwedge.developed import ends
from lagwedge.errors import BadDeed, NoRow
from lagwedge.kinds import check_kind
from lagwedge.parts import minus
from lagwedge.whole import is_within


class Ledger:
    """What was booked at each closing of one branch and kind of a book."""

    def __init__(self, book, branch, kind):
        check_kind(kind)
        check_branch(branch)
        self.book = book
        self.branch = branch
        self.kind = kind
        self.closings = []

    def shut(self, look):
        """Book ends and last known sums by a look, as known by now, and tell how many closings there are."""
        if not is_within(look, self.least_look(), self.book.first + BOOK_YEARS - 1):
            raise BadDeed()
        wedge = wedge_of(self.book, self.branch, self.kind, look)
        self.closings.append(Closing(wedge.years(), ends(wedge), wedge.latest()))
        return len(self.closings)

    def booked(self, at):
        """Tell for each year of a closing what was booked as still to come."""
        if not is_within(at, 0, len(self.closings) - 1):
            raise NoRow(at)
        closing = self.closings[at]
        return list(zip(closing.listed, closing.to_come()))

    def results(self):
        """Tell for each closing but the last what came of it by the next one, year by year."""
        return [result(closing, later) for closing, later in zip(self.closings, self.closings[1:])]

    def least_look(self):
        """Tell the first look that can be shut next."""
        if len(self.closings) == 0:
            return self.book.first
        return self.closings[-1].listed[-1] + 1

    def __len__(self):
        return len(self.closings)


class Closing:
    """What is booked at one closing: the years, and for each one its end and last known sum."""

    def __init__(self, listed, ended, reached):
        self.listed = listed
        self.ended = ended
        self.reached = reached

    def to_come(self):
        """Tell for each year what is still to come by this closing."""
        return [minus(end, reached) for end, reached in zip(self.ended, self.reached)]


def result(closing, later):
    """Tell for each year of a closing what of the booked was paid by the next one, is booked there, and is over."""
    found = []
    # The next closing has younger years, too, of which nothing was booked at this one.
    for place, booked in enumerate(closing.to_come()):
        paid = minus(later.reached[place], closing.reached[place])
        now = later.to_come()[place]
        found.append((closing.listed[place], booked, paid, now, minus(minus(booked, paid), now)))
    return found
