"""Rows of ways: several words that search by turns, with one book for all."""

from seekways.book import Book
from seekways.errors import BadWay
from seekways.forms import is_between, is_tuple_of
from seekways.steps import OVER, first_limit, gone, is_told_whole, open_picked
from seekways.ways import WAYS

MOST_PARTS = 4
MOST_SHARE = 20


def is_part(thing):
    """Whether a thing is a pair (word, share) of a word that needs no back."""
    if not is_tuple_of(thing, 2, 2):
        return False
    word, share = thing
    return word in WAYS and word != "ends" and is_between(share, 1, MOST_SHARE)


def are_parts(thing):
    """Whether a thing is a tuple of 1 to 4 parts."""
    return is_tuple_of(thing, 1, MOST_PARTS) and all([is_part(part) for part in thing])


class Joined:
    """A search of a task by some words, each for its share of steps."""

    def __init__(self, task, parts, *, alike="name"):
        if not are_parts(parts):
            raise BadWay(("parts",))
        self.parts = parts
        self.search = Book(task, alike=alike)
        self.bars = tuple([first_limit(task, word) for word, share in parts])
        self.at = 0
        self.used = 0

    def book(self):
        """The book that all write into."""
        return self.search

    def turn(self):
        """Whose turn it is, and how many steps of its share are done."""
        return (self.at, self.used)

    def limits(self):
        """The limit of each "deepen", None of any other word."""
        return self.bars

    def is_over(self):
        """Whether nothing is left to be done."""
        return is_told_whole(self.search)

    def step(self):
        """Let the word whose turn it is open a row, and tell it."""
        if self.is_over():
            return OVER
        at = self.at
        word, share = self.parts[at]
        number, grown = open_picked(self.search, word, self.bars[at])
        self.bars = self.bars[:at] + (grown,) + self.bars[at + 1:]
        self.used += 1
        if self.used == share:
            self.at = (at + 1) % len(self.parts)
            self.used = 0
        return ("opened", number)

    def go(self, steps):
        """Do so many steps, fewer where it is over then; tell how many."""
        return gone(self, steps)

    def resume(self, limits, turn, used):
        """Go on with these limits, at this turn."""
        self.bars = limits
        self.at = turn
        self.used = used
