"""Deeds of a book: what they are told by, what is refused of them, and the rows that they write."""

from lagwedge.errors import Ahead, BadDeed, Gone, NoDamage, NoRow, NotShut, Shut, Twice, Unlike
from lagwedge.whole import is_whole, is_within

BOOK_YEARS = 10
MOST_BRANCH = 3
MOST_AMOUNT = 1000000

# What each deed is told by, in order. A row is written alike, but for the amount that closing reckons.
FORMS = {
    "notice": ("branch", "year", "year"),
    "pay": ("number", "year", "amount"),
    "gain": ("number", "year", "amount"),
    "guess": ("number", "year", "turn"),
    "close": ("number", "year"),
    "reopen": ("number", "year"),
    "shift": ("number", "year"),
    "merge": ("number", "number"),
    "strike": ("number",),
    "drop": ("number",),
}


def is_branch(thing):
    """Tell of any thing whether it is a branch."""
    return is_within(thing, 0, MOST_BRANCH)


def is_book_year(first, thing):
    """Tell of any thing whether it is a year of the book that begins with a first one."""
    return is_within(thing, first, first + BOOK_YEARS - 1)


def fits(form, first, thing):
    """Tell of any thing whether a deed can be told by it."""
    if form == "branch":
        return is_branch(thing)
    if form == "year":
        return is_book_year(first, thing)
    if form == "amount":
        return is_within(thing, 1, MOST_AMOUNT)
    if form == "turn":
        return is_within(thing, -MOST_AMOUNT, MOST_AMOUNT) and thing != 0
    return is_whole(thing)


def check_told(first, deed):
    """Refuse a deed that is told by things out of their bounds."""
    word, *things = deed
    if not all([fits(form, first, thing) for form, thing in zip(FORMS[word], things)]):
        raise BadDeed()
    if word == "merge" and deed[1] == deed[2]:
        raise BadDeed()


def check_standing(standing, deed):
    """Refuse a deed that can't be done as the damages stand."""
    word = deed[0]
    if word == "notice":
        check_at(deed[3], deed[2])
    elif word == "strike":
        check_strike(standing, deed[1])
    elif word == "merge":
        check_merge(standing, deed[1], deed[2])
    elif word == "shift":
        check_shift(standing, deed[1], deed[2])
    elif word == "drop":
        check_here(standing, [deed[1]])
    else:
        check_entry(standing, word, deed[1], deed[2])


def check_here(standing, numbers):
    """Refuse numbers that no damage has, and then those of damages that are gone."""
    for number in numbers:
        if not standing.has(number):
            raise NoDamage(number)
    for number in numbers:
        if standing.damage(number).is_gone():
            raise Gone(number)


def check_entry(standing, word, number, at):
    """Refuse to write down what was in a year of a damage."""
    check_here(standing, [number])
    damage = standing.damage(number)
    if word in ("pay", "guess", "close") and damage.closed:
        raise Shut(number)
    if word == "reopen" and not damage.closed:
        raise NotShut(number)
    check_at(at, damage.year)


def check_shift(standing, number, year):
    """Refuse a damage's new year where a row of it was ahead of that."""
    check_here(standing, [number])
    check_entries(standing.money(number) + standing.own(number), year)


def check_merge(standing, number, into):
    """Refuse to merge a damage into another one."""
    check_here(standing, [number, into])
    other = standing.damage(into)
    if standing.damage(number).branch != other.branch:
        raise Unlike()
    check_entries(standing.money(number), other.year)


def check_strike(standing, row):
    """Refuse to strike a row."""
    if not is_within(row, 1, len(standing.words)):
        raise NoRow(row)
    if standing.words[row - 1] not in ("pay", "gain", "guess"):
        raise BadDeed()
    if row in standing.struck:
        raise Twice(row)


def check_entries(entries, year):
    """Refuse a year that is behind the year of an entry."""
    if len(entries) > 0:
        check_at(min([entry.at for entry in entries]), year)


def check_at(at, year):
    """Refuse a year that is ahead of the one in which the damage fell."""
    if at < year:
        raise Ahead(at, year)


def row_of(standing, deed):
    """Tell the row that a deed writes."""
    if deed[0] != "close":
        return deed
    turns = [entry.amount for entry in standing.money(deed[1]) if entry.word in ("guess", "close")]
    return (*deed, -sum(turns))
