"""Pages: a book as a text, and back."""

from lagwedge.book import Book
from lagwedge.deeds import FORMS
from lagwedge.errors import BadPage, BadPart, LagError, NoDamage, NoRow
from lagwedge.parts import read_part

# More signs than any number of a page has; a desk takes no more of them.
MOST_NUMBER_SIGNS = 12


def written(book):
    """Write a book as a text: its first year and depth, and a line for each row."""
    head = written_row(("lagwedge", book.first, book.depth))
    return "\n".join([head] + [written_row(row) for row in book.rows()])


def read_book(text):
    """Tell the book that is written as a text."""
    if not isinstance(text, str):
        raise BadPage(0)
    head, *lines = text.split("\n")
    book = read_head(head)
    for place, line in enumerate(lines, start=1):
        row = read_row(line)
        if row is None or not is_next(book, row):
            raise BadPage(place)
    return book


def written_row(row):
    """Write a word and whole numbers with one blank between."""
    return " ".join([str(held) for held in row])


def read_row(line):
    """Tell a word and the whole numbers behind it, or None where a line isn't written so."""
    word, *signs = line.split(" ")
    numbers = [read_whole(sign) for sign in signs]
    return None if None in numbers else (word, *numbers)


def read_whole(signs):
    """Tell the whole number that signs stand for, or None."""
    if len(signs) > MOST_NUMBER_SIGNS:
        return None
    try:
        top, bottom = read_part(signs)
    except BadPart:
        return None
    return top if bottom == 1 else None


def read_head(line):
    """Tell the book without rows that a first line tells of."""
    row = read_row(line)
    if row is None or row[0] != "lagwedge" or len(row) != 3:
        raise BadPage(0)
    try:
        return Book(row[1], depth=row[2])
    except LagError:
        raise BadPage(0) from None


def is_next(book, row):
    """Do the deed that writes a row, and tell whether it could be done and wrote just this row."""
    deed = row[:3] if row[0] == "close" else row
    if not is_deed(deed):
        return False
    try:
        book.do(deed)
    except (LagError, NoDamage, NoRow):
        return False
    return book.rows()[-1] == row


def is_deed(row):
    """Tell whether a word and numbers are of the form of a deed."""
    return row[0] in FORMS and len(row) == len(FORMS[row[0]]) + 1
