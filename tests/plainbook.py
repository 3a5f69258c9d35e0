"""The document's words of a book kept plainly, to hold the program against."""

from random import Random

from lagwedge.errors import (
    Ahead, BadDeed, Full, Gone, LagError, NoDamage, NoRow, NothingBack, NotShut, Shut, Twice, Unlike)

REFUSALS = (LagError, NoDamage, NoRow, NothingBack)
KINDS = ("paid", "back", "net", "guess", "told", "noticed", "shut")
BRANCHES = (0, 1, 2, 3, None)


class PlainBook:
    """For each damage that isn't gone its branch, year and the rows that count for it, which deeds hand on."""

    def __init__(self, first, depth=6, rows=()):
        self.first, self.depth, self.rows = first, depth, []
        self.noticed, self.struck, self.here = 0, set(), {}
        for row in rows:
            self.take(row)

    def take(self, row):
        """Put a row behind the others."""
        self.rows.append(row)
        word, number, place = row[0], row[1], len(self.rows)
        if word == "notice":
            self.noticed += 1
            self.here[self.noticed] = {"branch": row[1], "year": row[2], "open": True, "money": [], "own": [place]}
        if word in ("pay", "gain", "guess", "close"):
            self.here[number]["money"].append(place)
        if word in ("close", "reopen"):
            self.here[number]["own"].append(place)
            self.here[number]["open"] = word == "reopen"
        if word == "shift":
            self.here[number]["year"] = row[2]
        if word == "merge":
            self.here[row[2]]["money"] += self.here.pop(number)["money"]
        if word == "drop":
            del self.here[number]
        if word == "strike":
            self.struck.add(number)

    def row_of(self, word, *given):
        """The row that a deed writes."""
        if word != "close":
            return (word, *given)
        turns = [self.rows[place - 1][3] for place in self.money(given[0])
                 if self.rows[place - 1][0] in ("guess", "close")]
        return (word, *given, -sum(turns))

    def money(self, number):
        return [place for place in self.here[number]["money"] if place not in self.struck]

    def at(self, place):
        """The year in which something was by a row."""
        row = self.rows[place - 1]
        return row[3] if row[0] == "notice" else row[2]

    def due(self, word, *given):
        """The refusal that is due to a deed, with its fields, or None."""
        if not all(self.bounded(word, given)) or (word == "merge" and given[0] == given[1]):
            return (BadDeed, {})
        if len(self.rows) == 120:
            return (Full, {"most": 120})
        if word == "notice":
            return (Ahead, {"at": given[2], "year": given[1]}) if given[2] < given[1] else None
        if word == "strike":
            return self.due_to_strike(given[0])
        numbers = given[:2] if word == "merge" else given[:1]
        for number in numbers:
            if not 1 <= number <= self.noticed:
                return (NoDamage, {"number": number})
        for number in numbers:
            if number not in self.here:
                return (Gone, {"number": number})
        return self.due_to_damage(word, *given)

    def bounded(self, word, given):
        """Whether each number of a deed is one within its bounds."""
        sorts = {"notice": "byy", "pay": "nya", "gain": "nya", "guess": "nyt", "close": "ny", "reopen": "ny",
                 "shift": "ny", "merge": "nn", "strike": "n", "drop": "n"}[word]
        for sort, thing in zip(sorts, given, strict=True):
            whole = type(thing) is int
            yield whole and {
                "b": lambda: thing in (0, 1, 2, 3), "y": lambda: self.first <= thing < self.first + 10,
                "a": lambda: 0 < thing <= 10 ** 6, "t": lambda: 0 < abs(thing) <= 10 ** 6, "n": lambda: True}[sort]()

    def due_to_strike(self, row):
        if not 1 <= row <= len(self.rows):
            return (NoRow, {"row": row})
        if self.rows[row - 1][0] not in ("pay", "gain", "guess"):
            return (BadDeed, {})
        return (Twice, {"row": row}) if row in self.struck else None

    def due_to_damage(self, word, number, *more):
        damage = self.here[number]
        if word in ("pay", "guess", "close") and not damage["open"]:
            return (Shut, {"number": number})
        if word == "reopen" and damage["open"]:
            return (NotShut, {"number": number})
        if word == "merge" and self.here[more[0]]["branch"] != damage["branch"]:
            return (Unlike, {})
        if word == "drop":
            return None
        ats, year = {
            "merge": lambda: ([self.at(place) for place in self.money(number)], self.here[more[0]]["year"]),
            "shift": lambda: ([self.at(place) for place in self.money(number) + damage["own"]], more[0]),
        }.get(word, lambda: ([more[0]], damage["year"]))()
        return (Ahead, {"at": min(ats), "year": year}) if ats and min(ats) < year else None

    def damages(self):
        return [(number, damage["branch"], damage["year"], damage["open"])
                for number, damage in sorted(self.here.items())]

    def movements(self, kind, branch):
        words = {"paid": {"pay": 1}, "back": {"gain": 1}, "net": {"pay": 1, "gain": -1}, "guess": {"guess": 1, "close": 1},
                 "told": {"pay": 1, "gain": -1, "guess": 1, "close": 1}, "noticed": {"notice": 1},
                 "shut": {"close": 1, "reopen": -1}}[kind]
        found = []
        for number, damage in self.here.items():
            for place in damage["own"] if kind in ("noticed", "shut") else self.money(number):
                word = self.rows[place - 1][0]
                amount = 1 if kind in ("noticed", "shut") else self.rows[place - 1][3]
                if word in words and amount != 0 and branch in (None, damage["branch"]):
                    found.append((place, number, damage["year"], self.at(place), words[word] * amount))
        return sorted(found)


def do(book, deed):
    """A deed told by its word and numbers, done by the book's method of that name."""
    return getattr(book, deed[0])(*deed[1:])


def filled(book, deeds):
    """The book, with deeds done one behind the other."""
    for deed in deeds:
        do(book, deed)
    return book


def some_deed(chance, plain):
    """A deed by chance, more often than not one that is granted."""
    count = plain.noticed
    word = chance.choice(["notice"] * (2 if count > 5 else 6) + ["pay"] * 5 + ["guess"] * 5 + ["gain"] * 2
                         + ["close"] * 3 + ["reopen"] * 2 + ["shift"] * 2 + ["merge"] * 2 + ["strike", "strike", "drop"])
    number = chance.randrange(1, count + 2) if chance.random() < 0.9 else chance.choice([-1, 0, count + 1, 10 ** 30])
    other = chance.randrange(1, count + 2)
    year = plain.first + chance.randrange(4)
    at = plain.first + chance.choice([2, 3, 4, 5, 6, 7, 8, 9, 9]) if chance.random() < 0.8 else year
    branch = chance.choice([0, 0, 0, 1, 3])
    amount = chance.choice([1, 10 ** 6, chance.randrange(1, 1000), chance.randrange(1, 1000)])
    turn = amount * chance.choice([1, 1, -1])
    row = chance.randrange(1, len(plain.rows) + 2) if plain.rows else 1
    deed = {"notice": (branch, year, at), "pay": (number, at, amount), "gain": (number, at, amount),
            "guess": (number, at, turn), "close": (number, at), "reopen": (number, at), "shift": (number, year),
            "merge": (number, other), "strike": (row,), "drop": (number,)}[word]
    return (word, *deed)


def some_book(make, seed, most=60, first=2001, depth=6):
    """A book of granted deeds by chance, as a plain one tells them to be granted."""
    chance = Random(seed)
    plain, book = PlainBook(first, depth), make(first, depth=depth)
    while len(plain.rows) < most:
        deed = some_deed(chance, plain)
        if plain.due(*deed) is None:
            do(book, deed)
            plain.take(plain.row_of(*deed))
    return book


def answers(book, known=None):
    """All that a book tells of damages, as known by a number of rows."""
    return (book.damages(known=known), [book.movements(kind, branch, known=known) for kind in KINDS for branch in BRANCHES])


def plain_answers(plain):
    return (plain.damages(), [plain.movements(kind, branch) for kind in KINDS for branch in BRANCHES])
