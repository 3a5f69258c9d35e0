"""Kinds of movements: which rows count by them, and for which damage."""

from lagwedge.errors import NoKind

# Of each kind the words of the rows that count by it, each with its sign.
SIGNS = {
    "paid": (("pay", 1),),
    "back": (("gain", 1),),
    "net": (("pay", 1), ("gain", -1)),
    "guess": (("guess", 1), ("close", 1)),
    "told": (("pay", 1), ("gain", -1), ("guess", 1), ("close", 1)),
    "noticed": (("notice", 1),),
    "shut": (("close", 1), ("reopen", -1)),
}
# By these each row counts as one, for its own damage alone.
BY_NUMBER = ("noticed", "shut")


def check_kind(kind):
    """Refuse any thing that is no kind of movements."""
    if not isinstance(kind, str) or kind not in SIGNS:
        raise NoKind(kind)


def movements_of(standing, kind):
    """Tell the movements of a kind, by row: the row, its damage, the year of that, at and amount."""
    signs = dict(SIGNS[kind])
    counting = [entry for entry in standing.entries if entry.word in signs]
    if kind in BY_NUMBER:
        moved = [(entry, standing.own_holder(entry), signs[entry.word]) for entry in counting]
    else:
        moved = [(entry, standing.money_holder(entry), signs[entry.word] * entry.amount) for entry in counting]
    # Closing a damage with nothing guessed turns no guess.
    return [(entry.row, holder, standing.damage(holder).year, entry.at, amount)
            for entry, holder, amount in moved if holder is not None and amount != 0]
