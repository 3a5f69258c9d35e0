"""Points 32 and 34: books, deeds that are granted, undoing, doing again, and what is told of damages."""

from random import Random

from lagwedge.book import Book
from lagwedge.errors import BadDeed, Gone, NoDamage, NoRow, NothingBack
from tests.cases import Case, spoil
from tests.plainbook import (
    KINDS, REFUSALS, PlainBook, answers, do, filled, plain_answers, some_book, some_deed)
from tests.samples import MANY, NOT_WHOLE

# A deed of each sort behind some that let it be granted, with the row that it writes.
GRANTED = [
    ([], ("notice", 3, 2001, 2010), ("notice", 3, 2001, 2010)),
    ([("notice", 0, 2003, 2003)], ("pay", 1, 2003, 1), ("pay", 1, 2003, 1)),
    ([("notice", 0, 2003, 2003)], ("gain", 1, 2010, 1000000), ("gain", 1, 2010, 1000000)),
    ([("notice", 0, 2003, 2003)], ("guess", 1, 2004, -1000000), ("guess", 1, 2004, -1000000)),
    ([("notice", 0, 2003, 2003)], ("close", 1, 2003), ("close", 1, 2003, 0)),
    ([("notice", 0, 2003, 2003), ("guess", 1, 2004, 7)], ("close", 1, 2003), ("close", 1, 2003, -7)),
    ([("notice", 0, 2003, 2003), ("close", 1, 2005)], ("reopen", 1, 2003), ("reopen", 1, 2003)),
    ([("notice", 0, 2003, 2003)], ("shift", 1, 2001), ("shift", 1, 2001)),
    ([("notice", 0, 2003, 2003), ("notice", 0, 2005, 2005)], ("merge", 1, 2), ("merge", 1, 2)),
    ([("notice", 0, 2003, 2003), ("gain", 1, 2004, 5)], ("strike", 2), ("strike", 2)),
    ([("notice", 0, 2003, 2003)], ("drop", 1), ("drop", 1)),
]


class Books(Case):

    def test_values(self):
        book = Book(2001)
        self.assertEqual((book.first, book.depth, len(book), book.rows()), (2001, 6, 0, []))
        book = Book(first=9999, depth=1)
        self.assertEqual((book.first, book.depth), (9999, 1))
        self.assertEqual((Book(0, depth=3).first, Book(0, depth=3).depth), (0, 3))

    def test_bad_first(self):
        for first in [-1, 10000, MANY, -MANY, *NOT_WHOLE]:
            self.refuses(BadDeed, {}, Book, first)
            self.refuses(BadDeed, {}, Book, first, depth=2)

    def test_bad_depth(self):
        for depth in [0, -1, 7, MANY, *NOT_WHOLE]:
            self.refuses(BadDeed, {}, Book, 2001, depth=depth)

    def test_depth_by_name_alone(self):
        with self.assertRaises(TypeError):
            Book(2001, 6)


class Granted(Case):

    def test_each_deed_and_its_row(self):
        for ahead, deed, row in GRANTED:
            book = filled(Book(2001), ahead)
            told = do(book, deed)
            self.assertIs(type(told), int)
            self.assertEqual(told, 1 if deed[0] == "notice" else len(ahead) + 1)
            self.assertEqual(book.rows()[-1], row)
            self.assertEqual(len(book), len(ahead) + 1)
            self.assertEqual([type(held) for held in book.rows()[-1]], [str] + [int] * (len(row) - 1))

    def test_by_names(self):
        book = Book(2001)
        self.assertEqual(book.notice(at=2003, year=2002, branch=1), 1)
        self.assertEqual(book.notice(1, 2002, 2002), 2)
        self.assertEqual(book.pay(amount=4, at=2003, damage=1), 3)
        self.assertEqual(book.gain(amount=5, at=2003, damage=1), 4)
        self.assertEqual(book.guess(amount=6, at=2003, damage=1), 5)
        self.assertEqual(book.close(at=2004, damage=1), 6)
        self.assertEqual(book.reopen(at=2004, damage=1), 7)
        self.assertEqual(book.shift(year=2001, damage=1), 8)
        self.assertEqual(book.strike(row=3), 9)
        self.assertEqual(book.merge(into=2, damage=1), 10)
        self.assertEqual(book.drop(damage=2), 11)
        self.assertEqual(book.rows(), [
            ("notice", 1, 2002, 2003), ("notice", 1, 2002, 2002), ("pay", 1, 2003, 4), ("gain", 1, 2003, 5),
            ("guess", 1, 2003, 6), ("close", 1, 2004, -6), ("reopen", 1, 2004), ("shift", 1, 2001), ("strike", 3),
            ("merge", 1, 2), ("drop", 2)])

    def test_numbers_of_damages(self):
        book = Book(2001)
        self.assertEqual([book.notice(0, 2001, 2001), book.pay(1, 2001, 3), book.notice(0, 2001, 2001), book.drop(1),
                          book.notice(0, 2001, 2001)], [1, 2, 2, 4, 3])
        book.undo()
        self.assertEqual(book.notice(2, 2001, 2001), 3)

    def test_rows_in_any_order_of_years(self):
        book = filled(Book(2001), [("notice", 0, 2001, 2009), ("pay", 1, 2008, 1), ("pay", 1, 2001, 1),
                                   ("close", 1, 2007), ("reopen", 1, 2002), ("guess", 1, 2001, 4)])
        self.assertEqual(len(book), 6)

    def test_years_beyond_9999(self):
        book = filled(Book(9999), [("notice", 0, 10008, 10008), ("pay", 1, 10008, 1), ("shift", 1, 9999)])
        self.assertEqual(book.damages(), [(1, 0, 9999, True)])

    def test_granted_for_closed_damages(self):
        book = filled(Book(2001), [("notice", 0, 2002, 2004), ("notice", 0, 2001, 2004), ("guess", 1, 2004, 6),
                                   ("pay", 1, 2005, 6), ("close", 1, 2005), ("close", 2, 2005)])
        for deed in (("gain", 1, 2002, 5), ("shift", 1, 2002), ("shift", 1, 2001), ("strike", 3), ("strike", 4),
                     ("merge", 1, 2), ("drop", 2)):
            do(book, deed)
        self.assertEqual(len(book), 13)

    def test_strike_of_rows_whose_damage_is_gone(self):
        book = filled(Book(2001), [("notice", 0, 2002, 2004), ("notice", 0, 2001, 2004), ("pay", 1, 2004, 6),
                                   ("gain", 2, 2004, 7), ("merge", 1, 2), ("drop", 2)])
        self.assertEqual((book.strike(3), book.strike(4)), (7, 8))


class Closing(Case):

    def closed_by(self, *deeds):
        """The amount of the row that closes damage 1 behind deeds."""
        book = filled(Book(2001), [("notice", 0, 2001, 2001), ("notice", 0, 2001, 2001), *deeds])
        book.close(1, 2010)
        self.assertEqual(sum(movement[4] for movement in book.movements("guess", None) if movement[1] == 1), 0)
        return book.rows()[-1][3]

    def test_reckoned(self):
        self.assertEqual(self.closed_by(), 0)
        self.assertEqual(self.closed_by(("guess", 1, 2001, 5), ("guess", 1, 2009, -7)), 2)
        self.assertEqual(self.closed_by(("pay", 1, 2001, 5), ("gain", 1, 2009, 7)), 0)
        self.assertEqual(self.closed_by(*[("guess", 1, 2001, 1000000)] * 100), -100000000)

    def test_only_what_counts(self):
        self.assertEqual(self.closed_by(("guess", 1, 2001, 5), ("guess", 2, 2001, 9)), -5)
        self.assertEqual(self.closed_by(("guess", 1, 2001, 5), ("guess", 1, 2001, 3), ("strike", 3)), -3)

    def test_closed_before(self):
        self.assertEqual(self.closed_by(("guess", 1, 2001, 5), ("close", 1, 2002), ("reopen", 1, 2003)), 0)
        self.assertEqual(self.closed_by(("guess", 1, 2001, 5), ("close", 1, 2002), ("reopen", 1, 2003),
                                        ("guess", 1, 2001, 4)), -4)

    def test_struck_behind_closing(self):
        # The close row keeps its amount, so that the guess is 5 less than nought until it's closed again.
        self.assertEqual(self.closed_by(("guess", 1, 2001, 5), ("close", 1, 2002), ("strike", 3), ("reopen", 1, 2003)), 5)

    def test_merged(self):
        self.assertEqual(self.closed_by(("guess", 2, 2001, 5), ("merge", 2, 1), ("guess", 1, 2001, 1)), -6)
        self.assertEqual(self.closed_by(("guess", 2, 2001, 5), ("close", 2, 2001), ("merge", 2, 1)), 0)
        self.assertEqual(self.closed_by(("guess", 2, 2001, 5), ("close", 2, 2001), ("merge", 2, 1), ("strike", 3)), 5)
        self.assertEqual(self.closed_by(("notice", 0, 2001, 2001), ("guess", 3, 2001, 5), ("merge", 3, 2),
                                        ("guess", 2, 2001, 8), ("merge", 2, 1)), -13)

    def test_dropped(self):
        self.assertEqual(self.closed_by(("guess", 2, 2001, 5), ("drop", 2)), 0)


class Undoing(Case):

    def test_nothing_back(self):
        book = Book(2001)
        self.refuses(NothingBack, {}, book.undo)
        self.refuses(NothingBack, {}, book.redo)

    def test_each_deed(self):
        for ahead, deed, row in GRANTED:
            book = filled(Book(2001), ahead)
            before = answers(book)
            do(book, deed)
            behind = answers(book)
            self.assertEqual(book.undo(), row)
            self.assertEqual((answers(book), len(book), len(book.rows())), (before, len(ahead), len(ahead)))
            self.assertEqual(book.redo(), row)
            self.assertEqual((answers(book), len(book)), (behind, len(ahead) + 1))
            self.refuses(NothingBack, {}, book.redo)

    def test_one_behind_the_other(self):
        book = some_book(Book, 7)
        rows = book.rows()
        self.assertEqual([book.undo() for _ in rows], rows[::-1])
        self.refuses(NothingBack, {}, book.undo)
        self.assertEqual((book.rows(), len(book), book.damages()), ([], 0, []))
        self.assertEqual([book.redo() for _ in rows], rows)
        self.refuses(NothingBack, {}, book.redo)
        self.assertEqual(book.rows(), rows)

    def test_a_deed_ends_what_can_be_done_again(self):
        for ahead, deed, row in GRANTED:
            book = filled(Book(2001), [*ahead, ("notice", 0, 2001, 2001), ("notice", 0, 2001, 2002)])
            book.undo()
            book.undo()
            do(book, deed)
            self.refuses(NothingBack, {}, book.redo)
            self.assertEqual(book.rows()[-1], row)
            self.assertEqual(book.undo(), row)

    def test_the_same_deed_ends_it_too(self):
        book = filled(Book(2001), [("notice", 0, 2001, 2001), ("pay", 1, 2001, 5), ("pay", 1, 2001, 6)])
        book.undo()
        book.undo()
        book.pay(1, 2001, 5)
        self.refuses(NothingBack, {}, book.redo)

    def test_what_is_refused_doesnt_end_it(self):
        book = filled(Book(2001), [("notice", 0, 2001, 2001), ("pay", 1, 2001, 5), ("close", 1, 2002)])
        book.undo()
        book.undo()
        for deed in (("notice", 4, 2001, 2001), ("pay", 2, 2001, 5), ("reopen", 1, 2001), ("notice", 0, 2005, 2004),
                     ("strike", 2), ("strike", 1), ("merge", 1, 1), ("drop", 3)):
            with self.assertRaises(REFUSALS):
                do(book, deed)
        self.refuses(NoRow, {"row": 2}, book.damages, known=2)
        self.assertEqual([book.redo(), book.redo()], [("pay", 1, 2001, 5), ("close", 1, 2002, 0)])

    def test_questions_dont_end_it(self):
        book = filled(Book(2001), [("notice", 0, 2001, 2001), ("pay", 1, 2001, 5)])
        book.undo()
        answers(book)
        book.about(1)
        book.rows()
        self.assertEqual(book.redo(), ("pay", 1, 2001, 5))

    def test_full_books(self):
        book = some_book(Book, 3, most=120)
        row = book.undo()
        self.assertEqual(len(book), 119)
        self.assertEqual(book.redo(), row)
        self.assertEqual(len(book), 120)


class Telling(Case):

    def test_damages(self):
        book = filled(Book(2001), [
            ("notice", 0, 2001, 2002), ("notice", 3, 2002, 2002), ("notice", 0, 2003, 2003), ("notice", 1, 2004, 2005),
            ("close", 2, 2005), ("shift", 4, 2003), ("merge", 3, 1)])
        self.assertEqual(book.damages(), [(1, 0, 2001, True), (2, 3, 2002, False), (4, 1, 2003, True)])
        for told in book.damages():
            self.assertEqual([type(held) for held in told], [int, int, int, bool])
        book.drop(2)
        book.close(1, 2009)
        book.reopen(1, 2009)
        self.assertEqual(book.damages(), [(1, 0, 2001, True), (4, 1, 2003, True)])
        self.assertEqual(book.about(4), (4, 1, 2003, True))

    def test_merged_into_an_open_and_a_closed_one(self):
        for shut_first, shut_second in ((0, 0), (0, 1), (1, 0), (1, 1)):
            deeds = [("notice", 0, 2001, 2002), ("notice", 0, 2001, 2002)]
            deeds += [("close", 1, 2003)] * shut_first + [("close", 2, 2003)] * shut_second
            book = filled(Book(2001), [*deeds, ("merge", 1, 2)])
            self.assertEqual(book.damages(), [(2, 0, 2001, not shut_second)])

    def test_about_refused(self):
        book = filled(Book(2001), [("notice", 0, 2001, 2002), ("notice", 0, 2001, 2002), ("notice", 0, 2001, 2002),
                                   ("merge", 1, 2), ("drop", 2)])
        for number in [0, -1, 4, MANY, *NOT_WHOLE]:
            self.refuses(NoDamage, {"number": number}, book.about, number)
        for number in (1, 2):
            self.refuses(Gone, {"number": number}, book.about, number)
        self.refuses(NoRow, {"row": 6}, book.about, 9, known=6)
        self.refuses(NoRow, {"row": -1}, book.about, 1, known=-1)
        self.refuses(NoDamage, {"number": 2}, book.about, 2, known=1)
        self.refuses(NoDamage, {"number": 1}, book.about, 1, known=0)
        self.refuses(Gone, {"number": 1}, book.about, 1, known=4)
        self.assertEqual(book.about(number=2, known=4), (2, 0, 2001, True))

    def test_known_refused(self):
        book = some_book(Book, 1, most=9)
        row = book.undo()
        for known in [-1, 9, 10, MANY, -MANY] + [thing for thing in NOT_WHOLE if thing is not None]:
            self.refuses(NoRow, {"row": known}, book.damages, known=known)
            self.refuses(NoRow, {"row": known}, book.about, 1, known=known)
            self.refuses(NoRow, {"row": known}, book.about, None, known=known)
            for kind in KINDS:
                self.refuses(NoRow, {"row": known}, book.movements, kind, 0, known=known)
        self.assertEqual(book.redo(), row)
        self.assertEqual(book.damages(known=9), book.damages())

    def test_every_number_of_rows(self):
        for seed in range(12):
            book = some_book(Book, seed)
            rows = book.rows()
            before = answers(book)
            for known in range(len(rows) + 1):
                plain = PlainBook(2001, rows=rows[:known])
                self.assertEqual(answers(book, known), plain_answers(plain))
                for number in range(plain.noticed + 2):
                    told = [told for told in plain.damages() if told[0] == number]
                    if told:
                        self.assertEqual(book.about(number, known=known), told[0])
                    else:
                        kind = Gone if 1 <= number <= plain.noticed else NoDamage
                        self.refuses(kind, {"number": number}, book.about, number, known=known)
            self.assertEqual(answers(book), before)
            self.assertEqual(book.rows(), rows)

    def test_every_number_of_rows_by_undoing(self):
        book = some_book(Book, 77, most=120)
        told = [answers(book, known) for known in range(121)]
        for known in range(120, 0, -1):
            self.assertEqual(answers(book), told[known])
            book.undo()
        self.assertEqual(answers(book), told[0])
        for known in range(1, 121):
            book.redo()
            self.assertEqual(answers(book), told[known])


class Scripts(Case):

    def script(self, seed):
        """Deeds by chance, granted and refused, undone and done again."""
        chance = Random(seed)
        depth = 1 + seed % 6
        plain, book, waiting = PlainBook(2001, depth), Book(2001, depth=depth), []
        for _ in range(150):
            lot = chance.random()
            if lot < 0.06 and plain.rows:
                waiting.append(plain.rows[-1])
                plain = PlainBook(2001, depth, plain.rows[:-1])
                self.assertEqual(book.undo(), waiting[-1])
            elif lot < 0.1 and waiting:
                plain.take(waiting.pop())
                self.assertEqual(book.redo(), plain.rows[-1])
            else:
                deed = some_deed(chance, plain)
                due = plain.due(*deed)
                if due is None:
                    plain.take(plain.row_of(*deed))
                    waiting = []
                    self.assertEqual(do(book, deed), plain.noticed if deed[0] == "notice" else len(plain.rows))
                else:
                    self.refuses(due[0], due[1], getattr(book, deed[0]), *deed[1:])
            self.assertEqual(book.rows(), plain.rows)
            self.assertEqual(len(book), len(plain.rows))
        self.assertEqual(answers(book), plain_answers(plain))
        return {row[0] for row in plain.rows}

    def test_scripts(self):
        words = set()
        for seed in range(80):
            words |= self.script(seed)
        self.assertEqual(len(words), 10)


class Alone(Case):

    def test_every_list_is_told_anew(self):
        book = some_book(Book, 5)
        before = (book.rows(), answers(book))
        for told in (book.rows(), *answers(book)):
            spoil(told)
        self.assertEqual((book.rows(), answers(book)), before)
        self.assertEqual(len(book), 60)

    def test_two_books(self):
        one, other = Book(2001), Book(2001)
        one.notice(0, 2001, 2001)
        self.assertEqual((len(other), other.rows(), other.damages()), (0, [], []))
        other.notice(1, 2001, 2001)
        other.undo()
        self.refuses(NothingBack, {}, one.redo)
        self.assertEqual(len(one), 1)
