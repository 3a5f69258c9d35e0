"""Points 39 and 40: closings, what was booked at them, and what came of it."""

from lagwedge.book import Book
from lagwedge.cells import wedge_of
from lagwedge.closings import Ledger
from lagwedge.developed import ends, still
from lagwedge.errors import BadDeed, NoFactor, NoKind, NoRow
from lagwedge.parts import minus
from tests.cases import Case, spoil
from tests.plainbook import BRANCHES, KINDS, answers, filled, some_book
from tests.samples import MANY, NOT_WHOLE
from tests.test_movements import BAD_BRANCHES, BAD_KINDS

DEEDS = [
    ("notice", 0, 2001, 2001), ("notice", 0, 2002, 2002), ("pay", 1, 2001, 4), ("pay", 1, 2002, 6),
    ("pay", 2, 2002, 8), ("pay", 2, 2003, 10), ("notice", 0, 2003, 2003), ("pay", 3, 2003, 14),
]


def some():
    return filled(Book(2001, depth=1), DEEDS)


def told(ledger):
    """All that a ledger tells."""
    return (len(ledger), [ledger.booked(at) for at in range(len(ledger))], ledger.results())


class Shutting(Case):

    def test_plain(self):
        ledger = Ledger(some(), 0, "paid")
        self.assertEqual(told(ledger), (0, [], []))
        self.assertEqual([ledger.shut(2001), ledger.shut(2002), ledger.shut(look=2003)], [1, 2, 3])
        # By 2002 the factor is 10/4, by 2003 it is 28/12.
        booked = [[(2001, (0, 1))], [(2001, (0, 1)), (2002, (12, 1))], [(2001, (0, 1)), (2002, (0, 1)), (2003, (56, 3))]]
        results = [[(2001, (0, 1), (6, 1), (0, 1), (-6, 1))],
                   [(2001, (0, 1), (0, 1), (0, 1), (0, 1)), (2002, (12, 1), (10, 1), (0, 1), (2, 1))]]
        self.assertEqual(told(ledger), (3, booked, results))
        self.assertEqual(ledger.booked(at=1), booked[1])

    def test_years_left_out_between(self):
        ledger = Ledger(book=some(), branch=None, kind="paid")
        ledger.shut(2001)
        ledger.shut(2010)
        self.assertEqual([len(ledger.booked(at)) for at in (0, 1)], [1, 10])
        self.assertEqual(ledger.results(), [[(2001, (0, 1), (6, 1), (0, 1), (-6, 1))]])

    def test_by_depth_years_and_kinds(self):
        looks = (2002, 2003, 2006, 2010)
        count = 0
        for seed in range(12):
            book = some_book(Book, seed + 40, most=100, depth=1 + seed % 6)
            for kind in KINDS:
                for branch in BRANCHES:
                    ledger, wedges = Ledger(book, branch, kind), []
                    for look in looks:
                        wedge = wedge_of(book, branch, kind, look)
                        try:
                            ends(wedge)
                        except NoFactor as due:
                            fields = {"step": due.step, "below": due.below, "above": due.above}
                            self.refuses(NoFactor, fields, ledger.shut, look)
                        else:
                            wedges.append(wedge)
                            self.assertEqual(ledger.shut(look), len(wedges))
                    self.goes_with(ledger, wedges)
                    count += len(wedges)
        self.assertGreater(count, 500)

    def goes_with(self, ledger, wedges):
        """The ledger tells what these wedges tell, each of one closing."""
        self.assertEqual(len(ledger), len(wedges))
        for at, wedge in enumerate(wedges):
            self.assertEqual(ledger.booked(at), list(zip(wedge.years(), still(wedge))))
        results = ledger.results()
        self.assertEqual(len(results), max(0, len(wedges) - 1))
        for rows, here, later in zip(results, wedges, wedges[1:]):
            self.assertEqual([row[0] for row in rows], here.years())
            for place, (_, booked, paid, now, over) in enumerate(rows):
                self.assertEqual(booked, still(here)[place])
                self.assertEqual(paid, minus(later.latest()[place], here.latest()[place]))
                self.assertEqual(now, still(later)[place])
                self.assertEqual(over, minus(ends(here)[place], ends(later)[place]))
                self.assertEqual(over, minus(minus(booked, paid), now))


class Staying(Case):

    def test_behind_deeds_and_undoings(self):
        book = some()
        ledger = Ledger(book, 0, "paid")
        ledger.shut(2001)
        ledger.shut(2002)
        before = told(ledger)
        for deed in (("pay", 1, 2002, 100), ("shift", 2, 2001), ("merge", 3, 2), ("strike", 3), ("drop", 1)):
            filled(book, [deed])
            self.assertEqual(told(ledger), before)
        for _ in book.rows():
            book.undo()
            self.assertEqual(told(ledger), before)
        for _ in range(3):
            book.redo()
        self.assertEqual(told(ledger), before)

    def test_as_known_by_then(self):
        book = some()
        ledger, wedges = Ledger(book, 0, "paid"), []
        for look, deed in ((2001, ("pay", 1, 2001, 9)), (2002, ("shift", 3, 2001)), (2004, ("strike", 4)), (2005, None)):
            wedges.append(wedge_of(book, 0, "paid", look))
            ledger.shut(look)
            if deed is not None:
                filled(book, [deed])
        paid = [minus(later.latest()[0], here.latest()[0]) for here, later in zip(wedges, wedges[1:])]
        self.assertEqual([rows[0][2] for rows in ledger.results()], paid)
        # What was written down later of years booked before is paid by the next closing, too.
        self.assertEqual(paid[0], (15, 1))

    def test_behind_undoing(self):
        book = some()
        ledger = Ledger(book, 0, "paid")
        ledger.shut(2003)
        for _ in range(4):
            book.undo()
        ledger.shut(2004)
        self.assertEqual(ledger.booked(0)[2], (2003, (56, 3)))
        self.assertEqual(ledger.results(), [[(2001, (0, 1), (0, 1), (0, 1), (0, 1)),
                                             (2002, (0, 1), (-18, 1), (0, 1), (18, 1)),
                                             (2003, (56, 3), (-14, 1), (0, 1), (98, 3))]])

    def test_two_ledgers_of_one_book(self):
        book = some()
        one, other = Ledger(book, 0, "paid"), Ledger(book, None, "noticed")
        one.shut(2003)
        self.assertEqual(told(other), (0, [], []))
        self.assertEqual(other.shut(2002), 1)
        self.assertEqual((len(one), len(other)), (1, 1))
        self.assertEqual(other.booked(0), [(2001, (0, 1)), (2002, (0, 1))])
        self.assertEqual(one.shut(2004), 2)
        self.assertEqual(other.shut(2003), 2)

    def test_lists_told_and_spoilt(self):
        ledger = Ledger(some(), 0, "paid")
        for look in (2001, 2002, 2003):
            ledger.shut(look)
        before = told(ledger)
        spoil(list(told(ledger)))
        for at in range(3):
            spoil(ledger.booked(at))
        spoil(ledger.results())
        self.assertEqual(told(ledger), before)
        self.assertEqual(ledger.shut(2004), 4)

    def test_the_book_is_left_as_it_is(self):
        book = some()
        book.undo()
        before = (book.rows(), answers(book))
        Ledger(book, 0, "paid").shut(2003)
        self.assertEqual((book.rows(), answers(book)), before)
        self.assertEqual(book.redo(), DEEDS[-1])


class Refused(Case):

    def test_ledgers(self):
        book = some()
        for kind in BAD_KINDS:
            for branch in (0, None, 4, True):
                self.refuses(NoKind, {"kind": kind}, Ledger, book, branch, kind)
        for branch in BAD_BRANCHES:
            self.refuses(BadDeed, {}, Ledger, book, branch, "paid")

    def test_looks(self):
        ledger = Ledger(some(), 0, "paid")
        for look in [2000, 2011, 0, -1, MANY, *NOT_WHOLE]:
            self.refuses(BadDeed, {}, ledger.shut, look)
        ledger.shut(2003)
        before = told(ledger)
        for look in [2001, 2002, 2003, 2000, 2011, MANY, *NOT_WHOLE]:
            self.refuses(BadDeed, {}, ledger.shut, look)
            self.assertEqual(told(ledger), before)
        ledger.shut(2010)
        for look in (2010, 2009, 2011):
            self.refuses(BadDeed, {}, ledger.shut, look)
        self.assertEqual(len(ledger), 2)

    def test_a_look_that_was_refused_is_asked_again(self):
        book = filled(Book(2001, depth=1), [("notice", 0, 2001, 2001), ("pay", 1, 2002, 4)])
        ledger = Ledger(book, 0, "paid")
        self.assertEqual(ledger.shut(2001), 1)
        before = told(ledger)
        self.refuses(NoFactor, {"step": 0, "below": (0, 1), "above": (4, 1)}, ledger.shut, 2002)
        self.refuses(NoFactor, {"step": 0, "below": (0, 1), "above": (4, 1)}, ledger.shut, 2003)
        self.assertEqual(told(ledger), before)
        book.pay(1, 2001, 1)
        self.assertEqual(ledger.shut(2002), 2)
        self.assertEqual(ledger.results(), [[(2001, (0, 1), (5, 1), (0, 1), (-5, 1))]])

    def test_bad_look_goes_ahead_of_no_factor(self):
        book = filled(Book(2001, depth=1), [("notice", 0, 2001, 2001), ("pay", 1, 2002, 4)])
        ledger = Ledger(book, 0, "paid")
        ledger.shut(2001)
        self.refuses(BadDeed, {}, ledger.shut, 2001)
        self.refuses(BadDeed, {}, ledger.shut, 2011)

    def test_booked(self):
        ledger = Ledger(some(), 0, "paid")
        for at in [0, 1, -1, MANY, *NOT_WHOLE]:
            self.refuses(NoRow, {"row": at}, ledger.booked, at)
        ledger.shut(2002)
        ledger.shut(2003)
        for at in [2, 3, -1, -2, MANY, -MANY, *NOT_WHOLE]:
            self.refuses(NoRow, {"row": at}, ledger.booked, at)
