"""A desk: lines that are asked, and texts that are told."""

from lagwedge.book import Book
from lagwedge.cells import by_damage, wedge_of
from lagwedge.developed import ends, still_sum
from lagwedge.errors import BadPage, LagError, NoDamage, NoKind, NoRow, NothingBack
from lagwedge.pages import is_deed, read_row, read_whole, written, written_row
from lagwedge.parts import shown_part
from lagwedge.split import split


class Desk:
    """A book of its own, and what is told of it line by line."""

    def __init__(self, first, *, depth=6):
        self.book = Book(first, depth=depth)

    def ask(self, line):
        """Do what a line says, and tell a text."""
        try:
            return answer(self.book, line)
        except (LagError, NoDamage, NoKind, NoRow, NothingBack) as refusal:
            return f"refused {refusal.word}"


def answer(book, line):
    """Do what a line says, and tell a text; a line that has no form is refused."""
    if not isinstance(line, str):
        raise BadPage(0)
    if line == "undo":
        return written_row(book.undo())
    if line == "redo":
        return written_row(book.redo())
    if line == "rows":
        return written(book)
    row = read_row(line)
    if row is not None and is_deed(row):
        return told_deed(book, row)
    return told_question(book, line.split(" "))


def told_deed(book, deed):
    """Do a deed, and tell the number that it has."""
    number = book.do(deed)
    return f"damage {number}" if deed[0] == "notice" else f"row {number}"


def told_question(book, words):
    """Tell what a question's words ask: what it is, and by which kind, branch and look."""
    if len(words) != 4 or words[0] not in QUESTIONS or words[1] == "":
        raise BadPage(0)
    branch = read_whole(words[2])
    look = read_whole(words[3])
    if look is None or (branch is None and words[2] != "all"):
        raise BadPage(0)
    tell = QUESTIONS[words[0]]
    return tell(book, branch, words[1], look)


def told_ends(book, branch, kind, look):
    """Tell all ends."""
    return shown_parts(ends(wedge_of(book, branch, kind, look)))


def told_still(book, branch, kind, look):
    """Tell the sum still to come."""
    return shown_part(still_sum(wedge_of(book, branch, kind, look)))


def told_columns(book, branch, kind, look):
    """Tell what falls to each lag of an end."""
    tops, columns = split(wedge_of(book, branch, kind, look))
    return shown_parts(columns)


def told_causes(book, branch, kind, look):
    """Tell for each damage what is still to come from it."""
    return " ".join([f"{number}:{shown_part(cause)}" for number, cause in by_damage(book, branch, kind, look)])


def shown_parts(parts):
    """Write parts with one blank between."""
    return " ".join([shown_part(one) for one in parts])


QUESTIONS = {"ends": told_ends, "still": told_still, "columns": told_columns, "causes": told_causes}
