"""Steps of all that goes on step by step: how many are done, and how one opens what a word picks."""

from seekways.errors import BadNumber
from seekways.forms import is_between
from seekways.picks import picked

MOST_GO = 1000
OVER = ("over",)


def gone(mover, steps):
    """Let a mover do so many steps, fewer where it is over then; tell how many."""
    if not is_between(steps, 0, MOST_GO):
        raise BadNumber(steps)
    many = 0
    while many < steps and mover.step() != OVER:
        many += 1
    return many


def is_told_whole(book):
    """Whether a book leaves nothing to be searched: it is broken, or tells never or best."""
    return book.told()[0] != "open"


def first_limit(task, word):
    """The limit that a word begins with, None where it has none."""
    return task.bound(task.start()) if word == "deepen" else None


def open_picked(book, word, limit):
    """Open the row that a word picks, if it picks one; tell its number and the limit then."""
    number, grown = picked(book, word, limit)
    if number is not None:
        book.open_row(number)
    return (number, grown)


def step_ends(book):
    """Do a back step or open a row, by turns; where one of both can't be done, the other one."""
    deeds = book.openings()
    standing = book.open_back() if not deeds or deeds[-1][0] == "row" else None
    if standing is not None:
        return ("back", standing)
    number, limit = open_picked(book, "ends", None)
    if number is not None:
        return ("opened", number)
    return ("back", book.open_back())
