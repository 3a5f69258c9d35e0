"""Points 36 to 38: wedges of a book, diagonals, and what is still to come by damages and by rows."""

from collections import Counter
from fractions import Fraction

from lagwedge.book import Book
from lagwedge.cells import between, by_damage, diagonal, wedge_of, wedge_without
from lagwedge.developed import ends, still_sum
from lagwedge.errors import BadDeed, Gone, NoDamage, NoFactor, NoKind, NoRow, NothingBack
from lagwedge.ladder import factors
from lagwedge.parts import minus, part, total
from lagwedge.slopes import slopes
from lagwedge.wedge import Wedge
from tests.cases import Case, spoil
from tests.plainbook import BRANCHES, KINDS, PlainBook, answers, filled, some_book
from tests.samples import MANY, NOT_WHOLE, known_cells, pair
from tests.test_movements import BAD_BRANCHES, BAD_KINDS

YEARS = range(2001, 2011)
BAD_YEARS = [2000, 2011, 0, -1, MANY, *NOT_WHOLE]
BAD_KNOWN = [-1, 99, MANY] + [thing for thing in NOT_WHOLE if thing is not None]
DEEDS = [
    ("notice", 0, 2001, 2001), ("notice", 0, 2002, 2002), ("notice", 0, 2002, 2003), ("notice", 1, 2001, 2001),
    ("pay", 1, 2001, 40), ("pay", 1, 2002, 20), ("pay", 2, 2002, 30), ("pay", 3, 2003, 10), ("pay", 2, 2003, 25),
    ("pay", 1, 2005, 6), ("pay", 4, 2002, 5), ("gain", 2, 2003, 5), ("pay", 1, 2009, 2),
]


def some(depth=2):
    return filled(Book(2001, depth=depth), DEEDS)


def books():
    """Books by chance, of every depth, some of them with rows that wait to be done again."""
    for seed in range(12):
        book = some_book(Book, seed + 500, most=32 + 8 * seed, depth=1 + seed % 6)
        for _ in range(seed % 4):
            book.undo()
        yield book


def wedge_plainly(book, movements, look):
    """The cells that movements of a plain book come to."""
    years = look - book.first + 1
    cells = [[0] * known_cells(years, book.depth, place) for place in range(years)]
    for _, _, year, at, amount in movements:
        if at <= look:
            row = cells[year - book.first]
            row[at - year if at - year < book.depth else book.depth] += amount
    return Wedge(book.first, book.depth, [[(cell, 1) for cell in row] for row in cells])


def has_factors(wedge):
    try:
        factors(wedge)
    except NoFactor:
        return False
    return True


class Wedges(Case):

    def test_plain(self):
        book = some()
        self.assertEqual(wedge_of(book, 0, "paid", 2003).rows(), [
            [(40, 1), (20, 1), (0, 1)], [(30, 1), (35, 1)], [(0, 1)]])
        self.assertEqual(wedge_of(book, None, "net", 2003).rows(), [
            [(40, 1), (25, 1), (0, 1)], [(30, 1), (30, 1)], [(0, 1)]])
        self.assertEqual(wedge_of(book=book, branch=1, kind="paid", look=2001).rows(), [[(0, 1)]])
        self.assertEqual(wedge_of(book, 3, "paid", 2002).rows(), [[(0, 1), (0, 1)], [(0, 1)]])

    def test_lags_behind_the_depth(self):
        self.assertEqual(wedge_of(some(2), 0, "paid", 2009).rows()[0], [(40, 1), (20, 1), (8, 1)])
        self.assertEqual(wedge_of(some(1), 0, "paid", 2009).rows()[0], [(40, 1), (28, 1)])
        self.assertEqual(wedge_of(some(4), 0, "paid", 2009).rows()[0], [(40, 1), (20, 1), (0, 1), (0, 1), (8, 1)])
        self.assertEqual(wedge_of(some(6), 0, "paid", 2009).rows()[0][4:], [(6, 1), (0, 1), (2, 1)])
        self.assertEqual(wedge_of(some(6), 0, "paid", 2008).rows()[0][4:], [(6, 1), (0, 1), (0, 1)])

    def test_first_year_depth_and_look(self):
        for depth in range(1, 7):
            for look in YEARS:
                wedge = wedge_of(some(depth), 0, "paid", look)
                self.assertEqual((wedge.first, wedge.depth, wedge.look), (2001, depth, look))

    def test_years_beyond_9999(self):
        book = filled(Book(9999, depth=1), [("notice", 0, 10007, 10007), ("pay", 1, 10008, 5)])
        self.assertEqual(wedge_of(book, 0, "paid", 10008).latest()[8], (5, 1))
        self.assertEqual(diagonal(book, None, "paid", 10008), 5)
        self.assertEqual(by_damage(book, 0, "noticed", 10008), [(1, (0, 1))])

    def test_against_a_plain_book(self):
        for book in books():
            rows = book.rows()
            for known in {0, len(rows) // 2, len(rows)}:
                plain = PlainBook(2001, book.depth, rows[:known])
                for kind in KINDS:
                    for branch in BRANCHES:
                        movements = plain.movements(kind, branch)
                        for look in YEARS:
                            wedge = wedge_plainly(book, movements, look)
                            self.assertEqual(wedge_of(book, branch, kind, look, known=known), wedge)
                            if known == len(rows):
                                self.assertEqual(wedge_of(book, branch, kind, look), wedge)

    def test_books_are_left_as_they_are(self):
        for call, more in ((wedge_of, (2005,)), (diagonal, (2005,)), (by_damage, (2005,)), (between, (2005, 3, 9))):
            book = some()
            book.undo()
            before = (book.rows(), answers(book))
            call(book, 0, "paid", *more)
            self.assertEqual((book.rows(), answers(book)), before)
            self.assertEqual(book.redo(), DEEDS[-1])


class Diagonals(Case):

    def test_plain(self):
        book = some()
        self.assertEqual([diagonal(book, 0, "net", at) for at in YEARS], [40, 50, 30, 0, 6, 0, 0, 0, 2, 0])
        self.assertEqual(diagonal(book=book, branch=None, kind="noticed", at=2001), 2)
        self.assertIs(type(diagonal(book, 0, "net", 2001)), int)
        self.assertIs(type(diagonal(book, 2, "net", 2001)), int)
        self.assertEqual(diagonal(book, 0, "paid", 2009, known=12), 0)

    def test_they_come_to_the_wedges_whole_sum(self):
        for book in books():
            for kind in KINDS:
                for branch in BRANCHES:
                    for known in (None, len(book) // 2):
                        added = 0
                        for look in YEARS:
                            added += diagonal(book, branch, kind, look, known=known)
                            self.assertEqual(wedge_of(book, branch, kind, look, known=known).whole_sum(), (added, 1))

    def told(self, book, kinds, branch):
        return [[diagonal(book, branch, kind, at) for at in YEARS] for kind in kinds]

    def test_to_shift_a_damage_turns_none(self):
        count = 0
        for book in books():
            before = [self.told(book, KINDS, branch) for branch in BRANCHES]
            for number, _, year, _ in book.damages():
                for other in range(2001, year):
                    book.shift(number, other)
                    self.assertEqual([self.told(book, KINDS, branch) for branch in BRANCHES], before)
                    book.undo()
                    count += 1
        self.assertGreater(count, 20)

    def test_to_merge_a_damage_turns_none_of_money(self):
        book = some()
        kinds = ("paid", "back", "net", "guess", "told")
        before = self.told(book, kinds, 0)
        book.merge(3, 2)
        book.merge(2, 1)
        self.assertEqual(self.told(book, kinds, 0), before)
        self.assertEqual(diagonal(book, 0, "noticed", 2003), 0)


class Without(Case):

    def test_plain(self):
        book = some()
        self.assertEqual(wedge_without(book, 2, 0, "paid", 2003).rows(), [
            [(40, 1), (20, 1), (0, 1)], [(0, 1), (10, 1)], [(0, 1)]])
        self.assertEqual(wedge_without(book=book, damage=2, branch=1, kind="paid", look=2003),
                         wedge_of(book, 1, "paid", 2003))

    def test_merged_ones_go_with_it(self):
        book = some()
        book.merge(3, 2)
        self.assertEqual(wedge_without(book, 2, 0, "paid", 2003).rows(), [
            [(40, 1), (20, 1), (0, 1)], [(0, 1), (0, 1)], [(0, 1)]])
        self.assertEqual(wedge_without(book, 2, 0, "paid", 2003, known=13).rows()[1], [(0, 1), (10, 1)])

    def test_against_the_book_with_the_damage_dropped(self):
        for book in books():
            rows = book.rows()
            told = {}
            for number, _, _, _ in book.damages():
                for kind in KINDS:
                    for branch in (0, 1, None):
                        for look in (2001, 2004, 2010):
                            told[number, kind, branch, look] = wedge_without(book, number, branch, kind, look)
            self.assertEqual(book.rows(), rows)
            if len(rows) < 120:
                for (number, kind, branch, look), wedge in told.items():
                    book.drop(number)
                    self.assertEqual(wedge_of(book, branch, kind, look), wedge)
                    book.undo()

    def test_what_waits_to_be_done_again_waits(self):
        book = some()
        rows = [book.undo(), book.undo()]
        wedge_without(book, 1, 0, "paid", 2003)
        self.refuses(NoDamage, {"number": 9}, wedge_without, book, 9, 0, "paid", 2003)
        self.assertEqual([book.redo(), book.redo()], rows[::-1])
        self.refuses(NothingBack, {}, book.redo)

    def test_no_damage_and_gone_as_known_by_then(self):
        book = some()
        book.merge(3, 2)
        book.drop(1)
        for number in (0, -1, 5, MANY, *NOT_WHOLE):
            self.refuses(NoDamage, {"number": number}, wedge_without, book, number, 0, "paid", 2003)
        self.refuses(Gone, {"number": 3}, wedge_without, book, 3, 0, "paid", 2003)
        self.refuses(Gone, {"number": 1}, wedge_without, book, 1, 1, "paid", 2003)
        self.refuses(NoDamage, {"number": 2}, wedge_without, book, 2, 0, "paid", 2003, known=1)
        self.refuses(Gone, {"number": 3}, wedge_without, book, 3, 0, "paid", 2003, known=14)
        self.assertEqual(wedge_without(book, 1, 0, "paid", 2001, known=14).rows(), [[(0, 1)]])
        self.refuses(Gone, {"number": 1}, wedge_without, book, 1, 0, "paid", 2001, known=15)


class ByDamage(Case):

    def test_plain(self):
        book = filled(Book(2001, depth=1), [
            ("notice", 0, 2001, 2001), ("pay", 1, 2001, 4), ("pay", 1, 2002, 6), ("notice", 0, 2002, 2002),
            ("pay", 2, 2002, 7), ("notice", 0, 2002, 2002), ("pay", 3, 2002, 3), ("notice", 0, 2002, 2002)])
        # The slopes are -15/4 and 5/2, and 3/2 of the younger year.
        self.assertEqual(by_damage(book, 0, "paid", 2002), [(1, (0, 1)), (2, (21, 2)), (3, (9, 2))])
        self.assertEqual(by_damage(look=2002, kind="paid", branch=None, book=book), by_damage(book, 0, "paid", 2002))
        self.assertEqual(by_damage(book, 0, "paid", 2001), [(1, (0, 1))])
        self.assertEqual(by_damage(book, 1, "paid", 2002), [])
        self.assertEqual(by_damage(book, 0, "paid", 2002, known=5), [(1, (0, 1)), (2, (21, 2))])

    def test_movements_that_come_to_nought(self):
        book = filled(Book(2001), [("notice", 0, 2001, 2001), ("guess", 1, 2001, 5), ("guess", 1, 2001, -5)])
        self.assertEqual(by_damage(book, 0, "guess", 2001), [(1, (0, 1))])

    def test_movements_behind_the_look(self):
        book = filled(Book(2001), [("notice", 0, 2001, 2001), ("notice", 0, 2001, 2001), ("pay", 1, 2001, 5),
                                   ("pay", 2, 2002, 5)])
        self.assertEqual([number for number, _ in by_damage(book, 0, "paid", 2001)], [1])
        self.assertEqual([number for number, _ in by_damage(book, 0, "paid", 2002)], [1, 2])

    def test_against_slopes_and_still_sum(self):
        count = 0
        for book in books():
            for kind in KINDS:
                for branch in (0, None):
                    for look in (2001, 2003, 2006, 2010):
                        for known in (None, 2 * len(book) // 3):
                            count += self.comes_to_still_sum(book, branch, kind, look, known)
        self.assertGreater(count, 300)

    def comes_to_still_sum(self, book, branch, kind, look, known):
        """Whether by_damage is granted; where it is, that it tells what the slopes tell."""
        wedge = wedge_of(book, branch, kind, look, known=known)
        if not has_factors(wedge):
            with self.assertRaises(NoFactor) as due:
                factors(wedge)
            fields = {name: getattr(due.exception, name) for name in ("step", "below", "above")}
            self.refuses(NoFactor, fields, by_damage, book, branch, kind, look, known=known)
            return False
        found = Counter()
        for _, damage, year, at, amount in book.movements(kind, branch, known=known):
            if at <= look:
                slope = slopes(wedge)[year - 2001][min(at - year, book.depth)]
                found[damage] += amount * Fraction(*slope)
        told = by_damage(book, branch, kind, look, known=known)
        self.assertEqual(told, [(damage, pair(Fraction(found[damage]))) for damage in sorted(found)])
        self.assertEqual(total([one for _, one in told]), still_sum(wedge))
        return True


class Between(Case):

    def test_plain(self):
        book = filled(Book(2001, depth=1), [("notice", 0, 2001, 2001), ("pay", 1, 2001, 4), ("notice", 0, 2002, 2002),
                                            ("pay", 2, 2002, 7), ("pay", 1, 2002, 6), ("pay", 1, 2003, 8), ("strike", 5)])
        self.assertEqual(between(book, 0, "paid", 2002, 0, 7), [
            (1, (0, 1)), (2, (4, 1)), (3, (0, 1)), (4, (7, 1)), (5, (33, 2)), (6, (0, 1)), (7, (-33, 2))])
        self.assertEqual(between(book, 0, "paid", 2002, 4, 5), [(5, (33, 2))])
        self.assertEqual(between(end=7, start=7, look=2002, kind="paid", branch=None, book=book), [])
        self.assertEqual(between(book, 0, "paid", 2002, 0, 0), [])

    def test_against_told_ends(self):
        count = 0
        for book in books():
            for kind in ("noticed", "paid", "told"):
                for branch in (0, None):
                    for look in (2001, 2004, 2010):
                        for start, end in ((0, len(book)), (3, 20), (len(book) // 2, len(book)), (5, 5)):
                            count += self.adds_up(book, branch, kind, look, start, end)
        self.assertGreater(count, 100)

    def adds_up(self, book, branch, kind, look, start, end):
        """Whether between is granted; where it is, that it tells what told ends tell."""
        wedges = [wedge_of(book, branch, kind, look, known=known) for known in range(start, end + 1)]
        for wedge in wedges:
            if not has_factors(wedge):
                with self.assertRaises(NoFactor) as due:
                    factors(wedge)
                fields = {name: getattr(due.exception, name) for name in ("step", "below", "above")}
                self.refuses(NoFactor, fields, between, book, branch, kind, look, start, end)
                return False
        sums = [total(ends(wedge)) for wedge in wedges]
        told = between(book, branch, kind, look, start, end)
        self.assertEqual(told, [(start + place, minus(sums[place], sums[place - 1])) for place in range(1, len(sums))])
        self.assertEqual(total([one for _, one in told]), minus(sums[-1], sums[0]))
        return True

    def test_no_factor_by_the_first_number_of_rows(self):
        book = filled(Book(2001, depth=1), [("notice", 0, 2001, 2001), ("pay", 1, 2002, 4), ("pay", 1, 2002, 3),
                                            ("pay", 1, 2001, 1)])
        first, second = [{"step": 0, "below": (0, 1), "above": (above, 1)} for above in (4, 7)]
        self.refuses(NoFactor, first, between, book, 0, "paid", 2002, 0, 4)
        self.refuses(NoFactor, first, between, book, 0, "paid", 2002, 1, 4)
        self.refuses(NoFactor, first, between, book, 0, "paid", 2002, 2, 4)
        self.refuses(NoFactor, second, between, book, 0, "paid", 2002, 3, 4)
        # Also by the number of rows that it starts from, where there is no row to be told.
        self.refuses(NoFactor, first, between, book, 0, "paid", 2002, 2, 2)
        self.refuses(NoFactor, second, between, book, 0, "paid", 2002, 3, 3)
        self.assertEqual(between(book, 0, "paid", 2002, 0, 1), [(1, (0, 1))])
        self.assertEqual(between(book, 0, "paid", 2002, 4, 4), [])

    def test_start_and_end(self):
        book = some()
        book.undo()
        for start in [-1, 13, 14, MANY, *NOT_WHOLE]:
            for end in (0, 12, 99, None, True):
                self.refuses(NoRow, {"row": start}, between, book, 0, "paid", 2005, start, end)
        for start in (0, 4, 12):
            for end in [-1, start - 1, 13, MANY, *NOT_WHOLE]:
                self.refuses(NoRow, {"row": end}, between, book, 0, "paid", 2005, start, end)

    def test_start_and_end_go_ahead_of_factors(self):
        book = filled(Book(2001, depth=1), [("notice", 0, 2001, 2001), ("pay", 1, 2002, 4)])
        self.refuses(NoRow, {"row": 3}, between, book, 0, "paid", 2002, 2, 3)
        self.refuses(NoRow, {"row": 3}, between, book, 0, "paid", 2002, 3, 2)


class Refused(Case):
    """Kind, then branch and look, then known, then the rest."""

    def calls(self):
        yield "known", lambda kind, branch, year, known: (wedge_of, (some(), branch, kind, year), known)
        yield "known", lambda kind, branch, year, known: (diagonal, (some(), branch, kind, year), known)
        yield "known", lambda kind, branch, year, known: (wedge_without, (some(), 99, branch, kind, year), known)
        yield "known", lambda kind, branch, year, known: (by_damage, (without_factor(), branch, kind, year), known)
        yield "start", lambda kind, branch, year, known: (between, (without_factor(), branch, kind, year, known, -1), None)

    def due(self, kind, fields, *asked):
        for sort, call in self.calls():
            function, given, known = call(*asked)
            if sort == "known" and known is not None:
                self.refuses(kind, fields, function, *given, known=known)
            else:
                self.refuses(kind, fields, function, *given)

    def test_kind(self):
        for kind in BAD_KINDS:
            self.due(NoKind, {"kind": kind}, kind, 0, 2002, 0)
            self.due(NoKind, {"kind": kind}, kind, 4, None, True)

    def test_branch(self):
        for branch in BAD_BRANCHES:
            self.due(BadDeed, {}, "paid", branch, 2002, 0)
            self.due(BadDeed, {}, "paid", branch, 2002, -1)
            self.due(BadDeed, {}, "paid", branch, 2000, True)

    def test_look_and_at(self):
        for year in BAD_YEARS:
            self.due(BadDeed, {}, "paid", None, year, 0)
            self.due(BadDeed, {}, "paid", 0, year, -1)
            self.due(BadDeed, {}, "paid", 0, year, "1")

    def test_known(self):
        for known in BAD_KNOWN:
            self.due(NoRow, {"row": known}, "paid", 0, 2002, known)

    def test_rows_that_wait_to_be_done_again_are_none(self):
        book = some()
        book.undo()
        for call, more in ((wedge_of, ()), (diagonal, ()), (by_damage, ())):
            self.refuses(NoRow, {"row": 13}, call, book, 0, "paid", 2005, *more, known=13)
        self.refuses(NoRow, {"row": 13}, wedge_without, book, 1, 0, "paid", 2005, known=13)

    def test_factors_at_last(self):
        book = without_factor()
        fields = {"step": 0, "below": (0, 1), "above": (4, 1)}
        self.refuses(NoFactor, fields, by_damage, book, 0, "paid", 2002)
        self.refuses(NoFactor, fields, between, book, 0, "paid", 2002, 0, 2)
        self.assertEqual(wedge_of(book, 0, "paid", 2002).rows(), [[(0, 1), (4, 1)], [(0, 1)]])
        self.assertEqual(wedge_without(book, 1, 0, "paid", 2002).rows(), [[(0, 1), (0, 1)], [(0, 1)]])
        self.assertEqual(diagonal(book, 0, "paid", 2002), 4)


class Alone(Case):

    def test_every_list_is_told_anew(self):
        book = some()
        for call, more in ((by_damage, (2005,)), (between, (2005, 0, 13))):
            told = call(book, 0, "paid", *more)
            expected = list(told)
            spoil(told)
            self.assertEqual(call(book, 0, "paid", *more), expected)

    def test_wedges_stay_when_the_book_goes_on(self):
        book = some()
        wedge = wedge_of(book, 0, "paid", 2005)
        rows = wedge.rows()
        book.drop(1)
        self.assertEqual(wedge.rows(), rows)
        self.assertEqual(wedge_of(book, 0, "paid", 2005, known=13), wedge)

    def test_full_books(self):
        book = some_book(Book, 31, most=120)
        for look in YEARS:
            wedge = wedge_plainly(book, PlainBook(2001, rows=book.rows()).movements("told", None), look)
            self.assertEqual(wedge_of(book, None, "told", look, known=120), wedge)
        told = between(book, None, "noticed", 2001, 0, 120)
        self.assertEqual([row for row, _ in told], list(range(1, 121)))
        self.assertEqual(total([one for _, one in told]), part(diagonal(book, None, "noticed", 2001)))


def without_factor():
    """A book whose wedge up to 2002 has no factor."""
    return filled(Book(2001, depth=1), [("notice", 0, 2001, 2001), ("pay", 1, 2002, 4)])
