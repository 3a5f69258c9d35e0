"""All refusals. Each has its own name as its word, and the fields that it is made with."""

# The message is the word alone: fields may hold any things, also ones that Python won't write,
# such as numbers of very many figures.


class LagError(ValueError):
    """Above all refusals but those that stand under another of Python's errors."""

    def __init__(self, word="LagError"):
        ValueError.__init__(self, word)
        self.word = word


class BadPart(LagError):
    """A top, bottom, base or text makes no part."""

    def __init__(self):
        LagError.__init__(self, "BadPart")


class BadWedge(LagError):
    """A row makes no wedge; -1 stands for the wedge as a whole."""

    def __init__(self, row):
        LagError.__init__(self, "BadWedge")
        self.row = row


class Unlike(LagError):
    """Two things that must be alike aren't."""

    def __init__(self):
        LagError.__init__(self, "Unlike")


class BadPlan(LagError):
    """A plan can't be told so."""

    def __init__(self):
        LagError.__init__(self, "BadPlan")


class NoFactor(LagError):
    """No factor leads from below to above."""

    def __init__(self, step, below, above):
        LagError.__init__(self, "NoFactor")
        self.step = step
        self.below = below
        self.above = above


class NoSplit(LagError):
    """The factor of a step is nought, so nothing can be shared by it."""

    def __init__(self, step):
        LagError.__init__(self, "NoSplit")
        self.step = step


class BadSizes(LagError):
    """A row makes no sizes; -1 stands for the sizes as a whole."""

    def __init__(self, row):
        LagError.__init__(self, "BadSizes")
        self.row = row


class NoRate(LagError):
    """There is nothing to share by for one rate."""

    def __init__(self):
        LagError.__init__(self, "NoRate")


class NoMethod(LagError):
    """No way to an end has that name."""

    def __init__(self):
        LagError.__init__(self, "NoMethod")


class Few(LagError):
    """A wedge has fewer years than it must have at least."""

    def __init__(self, count, least):
        LagError.__init__(self, "Few")
        self.count = count
        self.least = least


class NoMiss(LagError):
    """A known sum isn't above nought."""

    def __init__(self, year, lag):
        LagError.__init__(self, "NoMiss")
        self.year = year
        self.lag = lag


class BadDeed(LagError):
    """A deed or a question has a number out of its bounds."""

    def __init__(self):
        LagError.__init__(self, "BadDeed")


class Full(LagError):
    """A book has as many rows as it may have at most."""

    def __init__(self, most):
        LagError.__init__(self, "Full")
        self.most = most


class Gone(LagError):
    """A damage is gone."""

    def __init__(self, number):
        LagError.__init__(self, "Gone")
        self.number = number


class Shut(LagError):
    """A damage is closed."""

    def __init__(self, number):
        LagError.__init__(self, "Shut")
        self.number = number


class NotShut(LagError):
    """A damage isn't closed."""

    def __init__(self, number):
        LagError.__init__(self, "NotShut")
        self.number = number


class Ahead(LagError):
    """A row would stand ahead of its damage's year."""

    def __init__(self, at, year):
        LagError.__init__(self, "Ahead")
        self.at = at
        self.year = year


class Twice(LagError):
    """A row is struck already."""

    def __init__(self, row):
        LagError.__init__(self, "Twice")
        self.row = row


class BadPage(LagError):
    """A line can't stand where it does."""

    def __init__(self, row):
        LagError.__init__(self, "BadPage")
        self.row = row


class NoShare(ZeroDivisionError):
    """Nothing can be shared by nought."""

    def __init__(self):
        ZeroDivisionError.__init__(self, "NoShare")
        self.word = "NoShare"


class NoCell(KeyError):
    """A year or a lag of it isn't known."""

    def __init__(self, year, lag):
        KeyError.__init__(self, "NoCell")
        self.word = "NoCell"
        self.year = year
        self.lag = lag


class NoDamage(KeyError):
    """No damage has that number."""

    def __init__(self, number):
        KeyError.__init__(self, "NoDamage")
        self.word = "NoDamage"
        self.number = number


class NoKind(LookupError):
    """There is no such kind of movements."""

    def __init__(self, kind):
        LookupError.__init__(self, "NoKind")
        self.word = "NoKind"
        self.kind = kind


class NoRow(IndexError):
    """There is no such row."""

    def __init__(self, row):
        IndexError.__init__(self, "NoRow")
        self.word = "NoRow"
        self.row = row


class NoStep(IndexError):
    """A wedge has no such step."""

    def __init__(self, step):
        IndexError.__init__(self, "NoStep")
        self.word = "NoStep"
        self.step = step


class NothingBack(RuntimeError):
    """There is nothing to take back."""

    def __init__(self):
        RuntimeError.__init__(self, "NothingBack")
        self.word = "NothingBack"
