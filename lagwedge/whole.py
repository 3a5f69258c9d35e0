"""What counts as a whole number; truths are integers to Python, but no numbers here."""


def is_whole(thing):
    """Tell of any thing whether it is a whole number."""
    return isinstance(thing, int) and not isinstance(thing, bool)


def is_within(thing, low, high):
    """Tell of any thing whether it is a whole number from low to high."""
    return is_whole(thing) and low <= thing <= high
