"""Point 35: which rows count by which kind, for which damage and year."""

from lagwedge.book import Book
from lagwedge.errors import BadDeed, NoKind, NoRow
from tests.cases import Case
from tests.plainbook import BRANCHES, KINDS, PlainBook, filled, some_book
from tests.samples import MANY, NOT_WHOLE

DEEDS = [
    ("notice", 0, 2001, 2003),   # 1
    ("notice", 2, 2002, 2002),
    ("pay", 1, 2004, 100),       # 3
    ("gain", 1, 2005, 30),
    ("guess", 1, 2004, 50),
    ("guess", 1, 2005, -20),     # 6
    ("pay", 2, 2003, 7),
    ("close", 1, 2006),          # 8: -30
    ("reopen", 1, 2007),
    ("close", 1, 2008),          # 10: nought
    ("close", 2, 2009),          # 11: nought
    ("gain", 2, 2010, 4),
]
BAD_KINDS = ["", "Paid", "paid ", "pay", "gain", "all", "close", "open", 0, 1, True, None, b"paid", ["paid"], ("paid",),
             {"paid": 1}, MANY]
BAD_BRANCHES = [-1, 4, MANY, -MANY] + [thing for thing in NOT_WHOLE if thing is not None]


def some():
    return filled(Book(2001), DEEDS)


class Kinds(Case):

    def test_each_kind(self):
        book = some()
        expected = {
            "paid": [(3, 1, 2001, 2004, 100), (7, 2, 2002, 2003, 7)],
            "back": [(4, 1, 2001, 2005, 30), (12, 2, 2002, 2010, 4)],
            "net": [(3, 1, 2001, 2004, 100), (4, 1, 2001, 2005, -30), (7, 2, 2002, 2003, 7), (12, 2, 2002, 2010, -4)],
            "guess": [(5, 1, 2001, 2004, 50), (6, 1, 2001, 2005, -20), (8, 1, 2001, 2006, -30)],
            "told": [(3, 1, 2001, 2004, 100), (4, 1, 2001, 2005, -30), (5, 1, 2001, 2004, 50), (6, 1, 2001, 2005, -20),
                     (7, 2, 2002, 2003, 7), (8, 1, 2001, 2006, -30), (12, 2, 2002, 2010, -4)],
            "noticed": [(1, 1, 2001, 2003, 1), (2, 2, 2002, 2002, 1)],
            "shut": [(8, 1, 2001, 2006, 1), (9, 1, 2001, 2007, -1), (10, 1, 2001, 2008, 1), (11, 2, 2002, 2009, 1)],
        }
        for kind in KINDS:
            self.assertEqual(book.movements(kind, None), expected[kind], kind)
            self.assertEqual(book.movements(kind, 0), [told for told in expected[kind] if told[1] == 1])
            self.assertEqual(book.movements(kind, 2), [told for told in expected[kind] if told[1] == 2])
            self.assertEqual(book.movements(kind, 1), [])
            self.assertEqual(book.movements(branch=None, kind=kind, known=None), expected[kind])
            for told in book.movements(kind, None):
                self.assertEqual([type(held) for held in told], [int] * 5)

    def test_told_is_net_and_guess(self):
        for seed in range(10):
            book = some_book(Book, seed)
            for branch in BRANCHES:
                self.assertEqual(book.movements("told", branch),
                                 sorted(book.movements("net", branch) + book.movements("guess", branch)))

    def test_against_a_plain_book(self):
        for seed in range(100, 130):
            book = some_book(Book, seed, most=120, first=2001 + seed)
            plain = PlainBook(2001 + seed, rows=book.rows())
            for kind in KINDS:
                for branch in BRANCHES:
                    self.assertEqual(book.movements(kind, branch), plain.movements(kind, branch))


class Turned(Case):

    def test_shifted(self):
        book = some()
        before = {kind: book.movements(kind, None) for kind in KINDS}
        book.shift(1, 2003)
        for kind in KINDS:
            self.assertEqual(book.movements(kind, None), [
                (row, damage, 2003 if damage == 1 else year, at, amount)
                for row, damage, year, at, amount in before[kind]])
            self.assertEqual(book.movements(kind, None, known=len(DEEDS)), before[kind])

    def test_struck(self):
        book = some()
        book.strike(3)
        book.strike(4)
        book.strike(6)
        self.assertEqual(book.movements("net", 0), [])
        self.assertEqual(book.movements("guess", None), [(5, 1, 2001, 2004, 50), (8, 1, 2001, 2006, -30)])
        self.assertEqual(book.movements("net", 0, known=13), [(4, 1, 2001, 2005, -30)])
        self.assertEqual(len(book.movements("noticed", None)), 2)
        book.undo()
        self.assertEqual(len(book.movements("guess", 0)), 3)

    def test_dropped(self):
        book = some()
        book.drop(1)
        for kind in KINDS:
            self.assertEqual(book.movements(kind, 0), [])
            self.assertEqual({told[1] for told in book.movements(kind, None)} - {2}, set())
            self.assertEqual({told[1] for told in book.movements(kind, 0, known=12)}, {1})

    def test_merged(self):
        book = some()
        book.notice(0, 2002, 2004)
        book.merge(1, 3)
        self.assertEqual(book.movements("net", 0), [(3, 3, 2002, 2004, 100), (4, 3, 2002, 2005, -30)])
        self.assertEqual(book.movements("guess", 0), [(5, 3, 2002, 2004, 50), (6, 3, 2002, 2005, -20),
                                                      (8, 3, 2002, 2006, -30)])
        self.assertEqual(book.movements("noticed", 0), [(13, 3, 2002, 2004, 1)])
        self.assertEqual(book.movements("shut", 0), [])
        self.assertEqual(book.movements("shut", None), [(11, 2, 2002, 2009, 1)])

    def test_merged_twice(self):
        book = some()
        book.notice(0, 2002, 2004)
        book.notice(0, 2001, 2009)
        book.merge(1, 3)
        book.pay(3, 2005, 1)
        book.merge(3, 4)
        self.assertEqual(book.movements("paid", 0), [(3, 4, 2001, 2004, 100), (16, 4, 2001, 2005, 1)])
        self.assertEqual(book.movements("noticed", 0), [(14, 4, 2001, 2009, 1)])
        self.assertEqual(book.movements("paid", 0, known=16), [(3, 3, 2002, 2004, 100), (16, 3, 2002, 2005, 1)])
        book.strike(3)
        self.assertEqual(book.movements("paid", 0), [(16, 4, 2001, 2005, 1)])
        book.drop(4)
        for kind in KINDS:
            self.assertEqual(book.movements(kind, 0), [])

    def test_merged_closed_ones(self):
        book = filled(Book(2001), [("notice", 0, 2001, 2001), ("guess", 1, 2002, 9), ("close", 1, 2003),
                                   ("notice", 0, 2001, 2001), ("guess", 2, 2002, 4), ("close", 2, 2004), ("merge", 1, 2)])
        self.assertEqual(book.movements("guess", 0), [(2, 2, 2001, 2002, 9), (3, 2, 2001, 2003, -9), (5, 2, 2001, 2002, 4),
                                                      (6, 2, 2001, 2004, -4)])
        self.assertEqual(book.movements("shut", 0), [(6, 2, 2001, 2004, 1)])


class Refused(Case):

    def test_kind(self):
        book = some()
        for kind in BAD_KINDS:
            self.refuses(NoKind, {"kind": kind}, book.movements, kind, 0)
            for branch in (None, 4, True):
                for known in (None, -1, 99):
                    self.refuses(NoKind, {"kind": kind}, book.movements, kind, branch, known=known)

    def test_branch(self):
        book = some()
        for branch in BAD_BRANCHES:
            for kind in KINDS:
                for known in (None, 3, -1, True):
                    self.refuses(BadDeed, {}, book.movements, kind, branch, known=known)

    def test_known(self):
        book = some()
        for known in (-1, 13, True, "1"):
            self.refuses(NoRow, {"row": known}, book.movements, "paid", None, known=known)
        self.assertEqual(book.movements("paid", None, known=0), [])
