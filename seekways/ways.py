"""Ways: each opens the rows of a book of its own, in an order by its word."""

from seekways.book import Book
from seekways.errors import BadWay
from seekways.steps import OVER, first_limit, gone, is_told_whole, open_picked, step_ends

WAYS = ("deep", "wide", "costs", "bounds", "branch", "deepen", "ends")


class Way:
    """A search of a task by one word, step by step."""

    def __init__(self, task, word, *, alike="name"):
        if word not in WAYS:
            raise BadWay((word,))
        self.task = task
        self.word = word
        self.search = Book(task, alike=alike, back=word == "ends")
        self.bar = first_limit(task, word)

    def kind(self):
        """The way's word."""
        return self.word

    def book(self):
        """The book that it writes into."""
        return self.search

    def limit(self):
        """The limit of "deepen", None of any other word."""
        return self.bar

    def is_over(self):
        """Whether nothing is left to be done."""
        return is_told_whole(self.search)

    def step(self):
        """Open a row or do a back step, and tell it."""
        if self.is_over():
            return OVER
        if self.word == "ends":
            return step_ends(self.search)
        # A refused opening leaves the limit as it was.
        number, self.bar = open_picked(self.search, self.word, self.bar)
        return ("opened", number)

    def go(self, steps):
        """Do so many steps, fewer where it is over then; tell how many."""
        return gone(self, steps)

    def resume(self, limit):
        """Go on with this limit."""
        self.bar = limit
