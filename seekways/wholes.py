"""Whole numbers, standings by their form, and the names of fixed values."""

NEVER = -1
MOST_ROWS = 400
WORDS = ("standing", "name", "turn")


def is_whole(thing):
    """Whether a thing is an int that is no truth."""
    return isinstance(thing, int) and not isinstance(thing, bool)


def is_standing(thing):
    """Whether a thing has the form of a standing."""
    if not isinstance(thing, tuple) or not 1 <= len(thing) <= 12:
        return False
    return all([is_whole(number) and 0 <= number <= 999 for number in thing])
