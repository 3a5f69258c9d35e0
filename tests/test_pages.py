"""Point 41: books as texts, and back."""

from random import Random

from lagwedge.book import Book
from lagwedge.errors import BadPage, NothingBack
from lagwedge.pages import read_book, written
from tests.cases import Case
from tests.plainbook import PlainBook, answers, do, filled, some_book, some_deed
from tests.samples import MANY, NOT_WHOLE

DEEDS = [
    ("notice", 0, 2001, 2003), ("notice", 0, 2002, 2002), ("pay", 1, 2004, 1000000), ("gain", 1, 2005, 30),
    ("guess", 1, 2004, -50), ("guess", 2, 2004, 70), ("close", 2, 2006), ("reopen", 2, 2007), ("shift", 1, 2002),
    ("strike", 4), ("merge", 1, 2), ("drop", 2),
]
PAGE = """lagwedge 2001 2
notice 0 2001 2003
notice 0 2002 2002
pay 1 2004 1000000
gain 1 2005 30
guess 1 2004 -50
guess 2 2004 70
close 2 2006 -70
reopen 2 2007
shift 1 2002
strike 4
merge 1 2
drop 2"""


def some():
    return filled(Book(2001, depth=2), DEEDS)


def plain_page(book):
    return "\n".join([f"lagwedge {book.first} {book.depth}"] + [" ".join(map(str, row)) for row in book.rows()])


def wrong_words(word):
    """What a number of a page may not be turned to, in whatever line."""
    bare = word.removeprefix("-")
    return ["0" + word, "-0" + bare, "+" + word, "--" + bare, word + ".0", word + "/1", word + " ", "", "x", word + "x",
            "1" + "0" * 30, "1" + "0" * 250, "9" * 5000, "\u0661", "\u00b2", "1_0", "0x1", word + "\t", "None", "True"]


class Written(Case):

    def test_plain(self):
        self.assertEqual(written(some()), PAGE)
        self.assertEqual(written(book=Book(0, depth=1)), "lagwedge 0 1")
        self.assertEqual(written(Book(9999)), "lagwedge 9999 6")

    def test_books_by_chance(self):
        for seed in range(20):
            book = some_book(Book, seed, first=37 * seed)
            self.assertEqual(written(book), plain_page(book))

    def test_what_waits_to_be_done_again_isnt_written(self):
        book = some()
        book.undo()
        self.assertEqual(written(book), PAGE.removesuffix("\ndrop 2"))
        self.assertEqual(book.redo(), ("drop", 2))


class ReadBack(Case):

    def reads_back(self, book):
        """The book that is read from a book's page tells all that the book tells."""
        other = read_book(written(book))
        self.assertIsInstance(other, Book)
        self.assertEqual((other.first, other.depth, other.rows(), len(other)),
                         (book.first, book.depth, book.rows(), len(book)))
        self.assertEqual(answers(other), answers(book))
        self.refuses(NothingBack, {}, other.redo)
        return other

    def test_plain(self):
        self.reads_back(some())
        self.assertEqual(read_book(text=PAGE).rows()[6], ("close", 2, 2006, -70))

    def test_empty_books(self):
        for first in (0, 9, 2001, 9999):
            for depth in range(1, 7):
                other = self.reads_back(Book(first, depth=depth))
                self.refuses(NothingBack, {}, other.undo)

    def test_books_by_chance_down_to_no_rows(self):
        for seed in range(15):
            book = some_book(Book, seed, most=40, first=2001 + 533 * seed, depth=1 + seed % 6)
            other = self.reads_back(book)
            plain = PlainBook(book.first, book.depth, book.rows())
            deed = next(deed for deed in [some_deed(Random(seed + turn), plain) for turn in range(99)]
                        if plain.due(*deed) is None)
            self.assertEqual(do(book, deed), do(other, deed))
            self.assertEqual(answers(book), answers(other))
            for _ in book.rows():
                self.assertEqual(book.undo(), other.undo())
                self.assertEqual(answers(book), answers(other))
            self.refuses(NothingBack, {}, other.undo)

    def test_undone_rows_dont_come_back(self):
        book = some()
        book.undo()
        other = self.reads_back(book)
        self.assertEqual(len(other), len(DEEDS) - 1)

    def test_full_books(self):
        for seed in range(5):
            book = some_book(Book, seed, most=120)
            self.reads_back(book)
            self.refuses(BadPage, {"row": 121}, read_book, written(book) + "\nnotice 0 2001 2001")
            self.refuses(BadPage, {"row": 121}, read_book, written(book) + "\n")
            self.refuses(BadPage, {"row": 121}, read_book, written(book) + "\nnotice 0 2001 2001\nnotice 0 2001 2001")

    def test_the_first_book_stays_alone(self):
        book = some()
        other = read_book(written(book))
        other.undo()
        self.assertEqual(len(book), len(DEEDS))


class BadPages(Case):

    def refuses_page(self, row, lines):
        self.refuses(BadPage, {"row": row}, read_book, "\n".join(lines))

    def test_each_number_of_each_line(self):
        lines = PAGE.split("\n")
        for place, line in enumerate(lines):
            words = line.split(" ")
            for at in range(1, len(words)):
                for wrong in wrong_words(words[at]):
                    turned = " ".join(words[:at] + [wrong] + words[at + 1:])
                    self.refuses_page(place, lines[:place] + [turned] + lines[place + 1:])

    def test_each_word_and_blank_of_each_line(self):
        lines = PAGE.split("\n")
        for place, line in enumerate(lines):
            word = line.split(" ")[0]
            for turned in ["", " ", " " + line, line + " ", line.replace(" ", "  "), line.replace(" ", "\t"),
                           line.replace(" ", "  ", 1), line.upper(), line.replace(word, "x"), line.replace(word, word[:-1]),
                           line.replace(word, "undo"), line.replace(word + " ", ""), line + " 1", line + "\r",
                           line.rsplit(" ", 1)[0], word, line.replace(" ", ""), line.replace(" ", ","), "# " + line]:
                self.refuses_page(place, lines[:place] + [turned] + lines[place + 1:])

    def test_empty_text_and_line_feeds(self):
        self.refuses(BadPage, {"row": 0}, read_book, "")
        self.refuses(BadPage, {"row": 0}, read_book, "\n")
        self.refuses(BadPage, {"row": 0}, read_book, "\n" + PAGE)
        self.refuses(BadPage, {"row": 13}, read_book, PAGE + "\n")
        self.refuses(BadPage, {"row": 13}, read_book, PAGE + "\n\n")
        self.refuses(BadPage, {"row": 1}, read_book, "lagwedge 2001 2\n")
        self.refuses(BadPage, {"row": 3}, read_book, PAGE.replace("\npay", "\n\npay"))
        self.refuses(BadPage, {"row": 0}, read_book, PAGE.replace("\n", "\r\n"))
        self.refuses(BadPage, {"row": 0}, read_book, PAGE.replace("\n", " "))

    def test_the_first_line(self):
        for head in ["lagwedge", "lagwedge 2001", "lagwedge 2001 2 1", "lagwedge 2001 0", "lagwedge 2001 7", "lagwedge -1 2",
                     "lagwedge 10000 2", "lagwedge 2001 -2", "Lagwedge 2001 2", "book 2001 2", "2001 2", "lagwedge 02001 2",
                     "lagwedge 2001 2/1", "lagwedge 2001  2", "lagwedge 2001 2 ", "notice 0 2001 2001", "notice 2001 2"]:
            self.refuses(BadPage, {"row": 0}, read_book, head)
            self.refuses_page(0, [head] + PAGE.split("\n")[1:])

    def test_the_first_line_twice(self):
        lines = PAGE.split("\n")
        self.refuses_page(1, lines[:1] + lines)
        self.refuses_page(13, lines + lines[:1])

    def test_another_first_year(self):
        lines = PAGE.split("\n")
        # The year 2003 of the first notice is behind the ten years from 1990 on, 2001 ahead of those from 2002 on.
        self.refuses_page(1, ["lagwedge 1990 2"] + lines[1:])
        self.refuses_page(1, ["lagwedge 2002 2"] + lines[1:])
        # With 1997 they go to 2006: the row that opens a damage again in 2007 is the first one behind.
        self.refuses_page(8, ["lagwedge 1997 2"] + lines[1:])
        self.assertEqual(len(read_book("\n".join(["lagwedge 1998 2"] + lines[1:]))), 12)

    def test_lines_left_out(self):
        lines = PAGE.split("\n")
        bad = {1: 5, 2: 5, 6: 6, 7: 7}
        for place in range(1, len(lines)):
            left = lines[:place] + lines[place + 1:]
            if place in bad:
                self.refuses_page(bad[place], left)
            else:
                self.assertEqual(len(read_book("\n".join(left))), 11)
        self.refuses_page(0, lines[1:])

    def test_lines_twice(self):
        lines = PAGE.split("\n")
        # All the others may stand twice, as far as what follows goes with it.
        for place, row in ((7, 8), (8, 9), (10, 11), (11, 12), (12, 13)):
            self.refuses_page(row, lines[:place] + [lines[place]] + lines[place:])
        self.refuses_page(8, lines[:6] + [lines[6]] + lines[6:])

    def test_lines_turned_about(self):
        lines = PAGE.split("\n")
        for place in range(len(lines)):
            for other in range(place):
                turned = list(lines)
                turned[place], turned[other] = turned[other], turned[place]
                row = first_bad(turned)
                if row is None:
                    self.assertEqual(plain_page(read_book("\n".join(turned))), "\n".join(turned))
                else:
                    self.refuses_page(row, turned)

    def test_close_amounts(self):
        lines = PAGE.split("\n")
        for amount in ("70", "-71", "-69", "0", "50"):
            self.refuses_page(7, [*lines[:7], f"close 2 2006 {amount}", *lines[8:]])
        self.refuses_page(7, [*lines[:7], "close 2 2006", *lines[8:]])
        self.refuses_page(7, [*lines[:7], "close 2 2006 -70 -70", *lines[8:]])
        self.assertEqual(len(read_book("lagwedge 1 1\nnotice 0 1 1\nclose 1 1 0")), 2)
        self.refuses(BadPage, {"row": 2}, read_book, "lagwedge 1 1\nnotice 0 1 1\nclose 1 1 -0")

    def test_every_refusal_of_deeds(self):
        lines = ["lagwedge 2001 2", "notice 0 2003 2004", "notice 1 2001 2001", "notice 0 2001 2001", "drop 3",
                 "close 1 2004 0", "pay 2 2004 5", "strike 6"]
        self.assertEqual(len(read_book("\n".join(lines))), 7)
        for line in ("notice 4 2003 2004", "notice -1 2003 2004", "notice 0 2011 2011", "pay 2 2004 0", "pay 2 2004 1000001",
                     "guess 2 2004 0", "merge 1 1", "pay 4 2004 1", "pay 0 2004 1", "drop 3", "pay 1 2004 1", "reopen 2 2004",
                     "merge 1 2", "gain 1 2002 1", "shift 1 2005", "strike 8", "strike 0", "strike 1", "strike 6",
                     "notice 0 2004 2003"):
            self.refuses_page(8, [*lines, line])
            self.refuses_page(8, [*lines, line, "nothing", ""])

    def test_pages_by_chance(self):
        for seed in range(30):
            lines = plain_page(some_book(Book, seed, most=25)).split("\n")
            chance = Random(seed)
            for _ in range(30):
                turned = list(lines)
                place, other = chance.randrange(26), chance.randrange(26)
                lot = chance.randrange(4)
                if lot == 0:
                    del turned[place]
                elif lot == 1:
                    turned[place], turned[other] = turned[other], turned[place]
                elif lot == 2:
                    turned.insert(other, turned[place])
                else:
                    words = turned[place].split(" ")
                    at = chance.randrange(len(words))
                    words[at] = chance.choice(["0", "1", "2", "3", "2001", "2005", "-1", "7", "pay", "guess"])
                    turned[place] = " ".join(words)
                row = first_bad(turned)
                if row is None:
                    self.assertEqual(plain_page(read_book("\n".join(turned))), "\n".join(turned))
                else:
                    self.refuses_page(row, turned)

    def test_what_is_no_text(self):
        for thing in [None, 5, MANY, ["lagwedge 2001 2"], b"lagwedge 2001 2", *NOT_WHOLE]:
            if not isinstance(thing, str):
                self.refuses(BadPage, {"row": 0}, read_book, thing)


def first_bad(lines):
    """The place of the first line that can't stand behind those ahead of it, told by a plain book, or None."""
    words = lines[0].split(" ") if lines else []
    if len(words) != 3 or words[0] != "lagwedge" or not all(figures(word) for word in words[1:]):
        return 0
    if not 0 <= int(words[1]) <= 9999 or not 1 <= int(words[2]) <= 6:
        return 0
    plain = PlainBook(int(words[1]), int(words[2]))
    counts = {"notice": 3, "pay": 3, "gain": 3, "guess": 3, "close": 3, "reopen": 2, "shift": 2, "merge": 2, "strike": 1,
              "drop": 1}
    for place, line in enumerate(lines[1:], start=1):
        word, *signs = line.split(" ")
        if counts.get(word) != len(signs) or not all(figures(sign) for sign in signs):
            return place
        row = (word, *map(int, signs))
        deed = row[:3] if word == "close" else row
        if plain.due(*deed) is not None or plain.row_of(*deed) != row:
            return place
        plain.take(row)
    return None


def figures(word):
    """Whether a word is a whole number as pages write it."""
    try:
        return str(int(word)) == word
    except ValueError:
        return False
