"""Point 33: what each deed refuses, and in which order."""

from random import Random

from lagwedge.book import Book
from lagwedge.errors import Ahead, BadDeed, Full, Gone, NoDamage, NoRow, NotShut, Shut, Twice, Unlike
from tests.cases import Case
from tests.plainbook import PlainBook, answers, do, filled, some_book, some_deed
from tests.samples import MANY, NOT_WHOLE

# Behind these: 1 is there, 2 closed, 3 merged into 1, 4 dropped, 5 of another branch.
DEEDS = [
    ("notice", 0, 2003, 2004), ("notice", 0, 2002, 2002), ("notice", 0, 2003, 2003), ("notice", 0, 2001, 2001),
    ("notice", 1, 2003, 2003), ("pay", 1, 2006, 10), ("gain", 1, 2005, 3), ("guess", 2, 2004, 8), ("pay", 4, 2001, 2),
    ("pay", 3, 2004, 9), ("strike", 7), ("close", 2, 2007), ("merge", 3, 1), ("drop", 4),
]
# A deed of each sort that is granted behind those.
GRANTED = [
    ("notice", 0, 2003, 2004), ("pay", 1, 2004, 10), ("gain", 1, 2004, 10), ("guess", 1, 2004, 10), ("close", 1, 2004),
    ("reopen", 2, 2004), ("shift", 1, 2002), ("merge", 1, 2), ("strike", 6), ("drop", 1),
]
# Where in a deed stand a branch, a year, an amount, a turn or a number.
PLACES = {
    "notice": ["branch", "year", "year"], "pay": ["number", "year", "amount"], "gain": ["number", "year", "amount"],
    "guess": ["number", "year", "turn"], "close": ["number", "year"], "reopen": ["number", "year"],
    "shift": ["number", "year"], "merge": ["number", "number"], "strike": ["number"], "drop": ["number"],
}
WRONG = {
    "branch": [-1, 4, 2003, MANY, *NOT_WHOLE], "year": [2000, 2011, 0, -1, MANY, *NOT_WHOLE],
    "amount": [0, -1, 1000001, MANY, -MANY, *NOT_WHOLE], "turn": [0, 1000001, -1000001, MANY, -MANY, *NOT_WHOLE],
    "number": NOT_WHOLE,
}


def some():
    return filled(Book(2001), DEEDS)


def full():
    """A book of 120 rows that stands as some does."""
    return filled(some(), [("gain", 1, 2005, 1)] * (120 - len(DEEDS)))


class RefusalCase(Case):

    def refuses_deed(self, book, kind, fields, *deed):
        """The deed is refused so, and the book stays as it is."""
        before = (book.rows(), answers(book))
        self.refuses(kind, fields, getattr(book, deed[0]), *deed[1:])
        self.assertEqual((book.rows(), answers(book)), before)


class BadDeeds(RefusalCase):

    def test_granted_ones(self):
        for deed in GRANTED:
            do(some(), deed)

    def test_each_number_of_each_deed(self):
        book = some()
        for deed in GRANTED:
            for place, sort in enumerate(PLACES[deed[0]], start=1):
                for wrong in WRONG[sort]:
                    self.refuses_deed(book, BadDeed, {}, *deed[:place], wrong, *deed[place + 1:])

    def test_bounds_that_are_let(self):
        book = some()
        for branch in (0, 3):
            book.notice(branch, 2001, 2010)
        for year in (2001, 2010):
            book.notice(2, year, 2010)
        number = book.notice(2, 2001, 2001)
        for at in (2001, 2010):
            for amount in (1, 1000000):
                book.pay(number, at, amount)
                book.gain(number, at, amount)
                book.guess(number, at, amount)
                book.guess(number, at, -amount)

    def test_the_books_own_years(self):
        book = Book(9999)
        self.refuses_deed(book, BadDeed, {}, "notice", 0, 9998, 9999)
        self.refuses_deed(book, BadDeed, {}, "notice", 0, 9999, 10009)
        self.assertEqual(book.notice(0, 10008, 10008), 1)

    def test_merge_into_itself(self):
        book = some()
        for number in (1, 2, 3, 4, 9, 0, -1, MANY):
            self.refuses_deed(book, BadDeed, {}, "merge", number, number)

    def test_ahead_of_all_else(self):
        # In a full book, of damages that aren't there, are gone or closed.
        book = full()
        for number in (9, 3, 4, 2, 1):
            for word in ("pay", "gain"):
                self.refuses_deed(book, BadDeed, {}, word, number, 2001, 0)
                self.refuses_deed(book, BadDeed, {}, word, number, 2000, 1)
            self.refuses_deed(book, BadDeed, {}, "guess", number, 2001, 0)
            for word in ("close", "reopen", "shift"):
                self.refuses_deed(book, BadDeed, {}, word, number, 2011)
            self.refuses_deed(book, BadDeed, {}, "merge", number, None)
            self.refuses_deed(book, BadDeed, {}, "merge", None, number)
            self.refuses_deed(book, BadDeed, {}, "merge", number, number)
        self.refuses_deed(book, BadDeed, {}, "notice", 4, 2003, 2001)
        self.refuses_deed(book, BadDeed, {}, "strike", True)
        self.refuses_deed(book, BadDeed, {}, "drop", "1")


class Fulls(RefusalCase):

    def test_each_deed(self):
        book = full()
        for deed in GRANTED:
            self.refuses_deed(book, Full, {"most": 120}, *deed)
        row = book.undo()
        for deed in GRANTED:
            do(book, deed)
            book.undo()
        book.gain(*row[1:])
        self.refuses_deed(book, Full, {"most": 120}, "drop", 1)

    def test_119_rows(self):
        for deed in GRANTED:
            book = filled(some(), [("gain", 1, 2005, 1)] * (119 - len(DEEDS)))
            do(book, deed)
            self.assertEqual(len(book), 120)

    def test_ahead_of_what_is_due_else(self):
        book = full()
        for deed in (("pay", 9, 2001, 1), ("pay", 3, 2001, 1), ("pay", 2, 2001, 1), ("reopen", 1, 2001),
                     ("notice", 0, 2003, 2002), ("shift", 1, 2010), ("merge", 1, 5), ("merge", 9, 8), ("strike", 0),
                     ("strike", 121), ("strike", 1), ("strike", 7), ("drop", 9), ("drop", 4)):
            self.refuses_deed(book, Full, {"most": 120}, *deed)

    def test_what_waits_to_be_done_again_is_no_row(self):
        book = full()
        book.undo()
        self.assertEqual(book.pay(1, 2004, 1), 120)


class OfDamages(RefusalCase):

    def deeds_of(self, number, at=2001):
        """Each deed of a damage, whatever else may be due."""
        return [("pay", number, at, 1), ("gain", number, at, 1), ("guess", number, at, 1), ("close", number, at),
                ("reopen", number, at), ("shift", number, 2010), ("merge", number, 5), ("drop", number)]

    def test_no_damage(self):
        book = some()
        for number in (0, -1, 6, 7, MANY, -MANY):
            for deed in self.deeds_of(number):
                self.refuses_deed(book, NoDamage, {"number": number}, *deed)
            self.refuses_deed(book, NoDamage, {"number": number}, "merge", 1, number)
        self.refuses_deed(Book(2001), NoDamage, {"number": 1}, "drop", 1)

    def test_gone(self):
        book = some()
        for number in (3, 4):
            for deed in self.deeds_of(number):
                self.refuses_deed(book, Gone, {"number": number}, *deed)
            self.refuses_deed(book, Gone, {"number": number}, "merge", 5, number)

    def test_of_merge_no_damage_goes_ahead_and_the_first_goes_first(self):
        book = some()
        self.refuses_deed(book, NoDamage, {"number": 8}, "merge", 8, 9)
        self.refuses_deed(book, NoDamage, {"number": 9}, "merge", 9, 8)
        self.refuses_deed(book, NoDamage, {"number": 9}, "merge", 3, 9)
        self.refuses_deed(book, NoDamage, {"number": 9}, "merge", 9, 3)
        self.refuses_deed(book, Gone, {"number": 3}, "merge", 3, 4)
        self.refuses_deed(book, Gone, {"number": 4}, "merge", 4, 3)
        self.refuses_deed(book, Gone, {"number": 3}, "merge", 5, 3)

    def test_undone_damages_are_none(self):
        book = filled(Book(2001), [("notice", 0, 2001, 2001)])
        book.undo()
        self.refuses_deed(book, NoDamage, {"number": 1}, "drop", 1)

    def test_shut(self):
        book = some()
        # The year is ahead of the damage's, too.
        for at in (2001, 2005):
            self.refuses_deed(book, Shut, {"number": 2}, "pay", 2, at, 1)
            self.refuses_deed(book, Shut, {"number": 2}, "guess", 2, at, 1)
            self.refuses_deed(book, Shut, {"number": 2}, "close", 2, at)
        book.reopen(2, 2003)
        book.guess(2, 2003, 5)

    def test_not_shut(self):
        book = some()
        for at in (2001, 2005):
            self.refuses_deed(book, NotShut, {"number": 1}, "reopen", 1, at)
        book.reopen(2, 2003)
        self.refuses_deed(book, NotShut, {"number": 2}, "reopen", 2, 2003)

    def test_gone_goes_ahead_of_shut(self):
        book = filled(Book(2001), [("notice", 0, 2003, 2003), ("close", 1, 2004), ("drop", 1)])
        self.refuses_deed(book, Gone, {"number": 1}, "pay", 1, 2001, 1)
        self.refuses_deed(book, Gone, {"number": 1}, "close", 1, 2001)

    def test_unlike(self):
        book = some()
        for pair in ((1, 5), (5, 1), (2, 5), (5, 2)):
            self.refuses_deed(book, Unlike, {}, "merge", *pair)

    def test_unlike_goes_ahead_of_ahead(self):
        book = filled(Book(2001), [("notice", 0, 2001, 2001), ("pay", 1, 2001, 1), ("notice", 1, 2005, 2005)])
        self.refuses_deed(book, Unlike, {}, "merge", 1, 2)


class Aheads(RefusalCase):

    def test_notice(self):
        for year in range(2002, 2011):
            self.refuses_deed(some(), Ahead, {"at": year - 1, "year": year}, "notice", 0, year, year - 1)
        self.refuses_deed(some(), Ahead, {"at": 2001, "year": 2010}, "notice", 0, 2010, 2001)

    def test_entries(self):
        book = some()
        for deed in (("pay", 1, 2002, 1), ("gain", 1, 2002, 1), ("guess", 1, 2002, 1), ("close", 1, 2002)):
            self.refuses_deed(book, Ahead, {"at": 2002, "year": 2003}, *deed)
        self.refuses_deed(book, Ahead, {"at": 2001, "year": 2002}, "reopen", 2, 2001)
        self.refuses_deed(book, Ahead, {"at": 2001, "year": 2002}, "gain", 2, 2001, 1)

    def test_entries_of_a_damage_that_was_shifted(self):
        book = some()
        book.shift(1, 2002)
        book.pay(1, 2002, 1)
        self.refuses_deed(book, Ahead, {"at": 2001, "year": 2002}, "pay", 1, 2001, 1)

    def test_shift_by_each_row(self):
        for deeds, at in (
                ([("pay", 1, 2004, 1)], 2004), ([("gain", 1, 2004, 1)], 2004), ([("guess", 1, 2004, 1)], 2004),
                ([("close", 1, 2004)], 2004), ([("close", 1, 2006), ("reopen", 1, 2004)], 2004), ([], 2005),
                ([("pay", 1, 2003, 1), ("gain", 1, 2002, 1), ("guess", 1, 2004, 1)], 2002),
                ([("pay", 1, 2002, 1), ("strike", 2)], 2005), ([("gain", 1, 2003, 1), ("strike", 2)], 2005),
                ([("guess", 1, 2003, 1), ("guess", 1, 2004, 1), ("strike", 2)], 2004)):
            book = filled(Book(2001), [("notice", 0, 2001, 2005), *deeds])
            for year in range(at + 1, 2011):
                self.refuses_deed(book, Ahead, {"at": at, "year": year}, "shift", 1, year)
            book.shift(1, at)
            self.assertEqual(book.about(1)[2], at)

    def test_shift_of_a_damage_that_others_were_merged_into(self):
        ahead = [("notice", 0, 2001, 2008), ("notice", 0, 2001, 2002)]
        for deeds, at in (
                ([("pay", 2, 2004, 1)], 2004), ([("gain", 2, 2004, 1)], 2004), ([("guess", 2, 2004, 1)], 2004),
                ([("close", 2, 2004)], 2004), ([("close", 2, 2006), ("reopen", 2, 2003)], 2006), ([], 2008),
                ([("pay", 2, 2003, 1), ("strike", 3)], 2008)):
            book = filled(Book(2001), [*ahead, *deeds, ("merge", 2, 1)])
            for year in range(at + 1, 2011):
                self.refuses_deed(book, Ahead, {"at": at, "year": year}, "shift", 1, year)
            book.shift(1, at)

    def test_merge_by_each_row(self):
        for deeds, at in (
                ([("pay", 1, 2004, 1)], 2004), ([("gain", 1, 2004, 1)], 2004), ([("guess", 1, 2004, -1)], 2004),
                ([("close", 1, 2004)], 2004), ([("close", 1, 2006), ("reopen", 1, 2002)], 2006), ([], None),
                ([("pay", 1, 2002, 1), ("gain", 1, 2003, 1)], 2002), ([("pay", 1, 2002, 1), ("strike", 2)], None),
                ([("pay", 1, 2002, 1), ("pay", 1, 2006, 1), ("strike", 2)], 2006)):
            for year in range(2001, 2011):
                book = filled(Book(2001), [("notice", 0, 2001, 2001), *deeds, ("notice", 0, year, year)])
                if at is not None and at < year:
                    self.refuses_deed(book, Ahead, {"at": at, "year": year}, "merge", 1, 2)
                else:
                    book.merge(1, 2)

    def test_merge_of_a_damage_that_others_were_merged_into(self):
        book = filled(Book(2001), [("notice", 0, 2001, 2001), ("notice", 0, 2001, 2001), ("notice", 0, 2005, 2005),
                                   ("pay", 1, 2004, 1), ("merge", 1, 2)])
        self.refuses_deed(book, Ahead, {"at": 2004, "year": 2005}, "merge", 2, 3)
        book.shift(3, 2004)
        book.merge(2, 3)
        self.refuses_deed(book, Ahead, {"at": 2004, "year": 2006}, "shift", 3, 2006)

    def test_merge_asks_the_other_ones_year_as_it_is(self):
        book = filled(Book(2001), [("notice", 0, 2001, 2001), ("pay", 1, 2003, 1), ("notice", 0, 2005, 2005)])
        self.refuses_deed(book, Ahead, {"at": 2003, "year": 2005}, "merge", 1, 2)
        book.shift(2, 2003)
        book.merge(1, 2)

    def test_rows_of_the_other_one_dont_count(self):
        book = filled(Book(2001), [("notice", 0, 2001, 2001), ("pay", 1, 2001, 1), ("notice", 0, 2005, 2005)])
        self.assertEqual(book.merge(2, 1), 4)


class Strikes(RefusalCase):

    def test_no_row(self):
        book = some()
        for row in (0, -1, len(DEEDS) + 1, MANY, -MANY):
            self.refuses_deed(book, NoRow, {"row": row}, "strike", row)
        book.undo()
        self.refuses_deed(book, NoRow, {"row": len(DEEDS)}, "strike", len(DEEDS))

    def test_rows_that_cant_be_struck(self):
        book = filled(some(), [("reopen", 2, 2003), ("shift", 1, 2001)])
        for row, deed in enumerate(book.rows(), start=1):
            if deed[0] not in ("pay", "gain", "guess"):
                self.refuses_deed(book, BadDeed, {}, "strike", row)

    def test_twice(self):
        book = some()
        self.refuses_deed(book, Twice, {"row": 7}, "strike", 7)
        for row in (6, 8, 9, 10):
            book.strike(row)
            self.refuses_deed(book, Twice, {"row": row}, "strike", row)
        book.undo()
        book.strike(10)


class Chances(RefusalCase):

    def test_every_deed_of_full_and_of_other_books(self):
        chance = Random(5)
        seen = set()
        for most in (0, 1, 20, 50, 119, 120):
            book = some_book(Book, most, most=most)
            plain = PlainBook(2001, rows=book.rows())
            for _ in range(400):
                deed = list(some_deed(chance, plain))
                if chance.random() < 0.1:
                    deed[chance.randrange(1, len(deed))] = chance.choice(NOT_WHOLE)
                due = plain.due(*deed)
                if due is None:
                    do(book, deed)
                    book.undo()
                else:
                    self.refuses(due[0], due[1], getattr(book, deed[0]), *deed[1:])
                    seen.add(due[0])
                self.assertEqual(book.rows(), plain.rows)
        self.assertEqual(seen, {BadDeed, Full, NoDamage, Gone, Shut, NotShut, Unlike, Ahead, NoRow, Twice})
