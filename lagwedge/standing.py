"""How the damages of a book stand behind some of its rows."""

from lagwedge.whole import is_within

# Rows of these words count for the damage that theirs was merged into, the other rows for their own alone.
MONEY = ("pay", "gain", "guess", "close")


class Damage:
    """One damage: its branch, the year in which it fell, and whether it's closed or gone."""

    def __init__(self, branch, year):
        self.branch = branch
        self.year = year
        self.closed = False
        self.dropped = False
        self.into = None

    def is_gone(self):
        """Tell whether the damage was dropped or merged into another one."""
        return self.dropped or self.into is not None


class Entry:
    """A row that tells what was in a year of a damage, with the row's number."""

    def __init__(self, row, word, number, at, amount):
        self.row = row
        self.word = word
        self.number = number
        self.at = at
        self.amount = amount

    def is_money(self):
        """Tell whether the row counts for the damage that its own one was merged into."""
        return self.word in MONEY


class Standing:
    """The damages behind some rows, the rows that are struck, and those that may count."""

    def __init__(self, rows):
        self.words = [row[0] for row in rows]
        self.noticed = []
        self.struck = {}
        self.entries = []
        for place, row in enumerate(rows):
            self.take(place + 1, row)

    def take(self, place, row):
        """Let the row of a number turn how the damages stand."""
        word = row[0]
        if word == "notice":
            self.noticed.append(Damage(row[1], row[2]))
            self.entries.append(Entry(place, word, len(self.noticed), row[3], 1))
        elif word == "strike":
            self.struck[row[1]] = True
        else:
            self.turn(self.damage(row[1]), row)
        if word in MONEY:
            self.entries.append(Entry(place, word, row[1], row[2], row[3]))
        elif word == "reopen":
            self.entries.append(Entry(place, word, row[1], row[2], 1))

    def turn(self, damage, row):
        """Let a row turn the damage that it names."""
        word = row[0]
        if word == "close":
            damage.closed = True
        elif word == "reopen":
            damage.closed = False
        elif word == "shift":
            damage.year = row[2]
        elif word == "merge":
            damage.into = row[2]
        elif word == "drop":
            damage.dropped = True

    def has(self, number):
        """Tell of any thing whether it is the number of a damage, be it gone or not."""
        return is_within(number, 1, len(self.noticed))

    def damage(self, number):
        """Tell the damage of a number."""
        return self.noticed[number - 1]

    def numbers(self):
        """Tell the numbers of the damages that aren't gone."""
        return [place + 1 for place, damage in enumerate(self.noticed) if not damage.is_gone()]

    def holder(self, number):
        """Tell the number of the damage that a damage's money counts for, or None where it counts nowhere."""
        holder = number
        while self.damage(holder).into is not None:
            holder = self.damage(holder).into
        return None if self.damage(holder).dropped else holder

    def money_holder(self, entry):
        """Tell the number of the damage that an entry counts for as money, or None."""
        if not entry.is_money() or entry.row in self.struck:
            return None
        return self.holder(entry.number)

    def own_holder(self, entry):
        """Tell the number of the damage that an entry counts for by number, or None."""
        return None if self.damage(entry.number).is_gone() else entry.number

    def money(self, number):
        """Tell the entries that count for a damage as money."""
        return [entry for entry in self.entries if self.money_holder(entry) == number]

    def own(self, number):
        """Tell a damage's own entries of being noticed, closed and reopened."""
        return [entry for entry in self.entries
                if entry.number == number and entry.word in ("notice", "close", "reopen")]
