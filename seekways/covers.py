"""Covers: numbers to be covered by rows."""

from seekways.forms import are_between, are_rising_rows, are_within, demand, is_between, is_tuple_of
from seekways.tasks import Task

MOST_NUMBERS = 10
MOST_COVERS = 8


def are_covers(rows):
    """Whether a thing is a tuple of 1 to 8 rows of rising numbers, none empty."""
    return are_rising_rows(rows, MOST_COVERS) and len(rows) > 0 and () not in rows


def covered(standing, row):
    """A standing when the numbers of a row are covered, too."""
    return tuple([0 if number in row else left for number, left in enumerate(standing)])


class Cover(Task):
    """A task whose standings have 1 for each number that is still to be covered."""

    def __init__(self, many, rows):
        demand(is_between(many, 1, MOST_NUMBERS), "many")
        demand(are_covers(rows), "rows")
        demand(all([are_within(row, many) for row in rows]), "rows")
        self.many = many
        self.rows = rows

    def start(self):
        """All numbers are still to be covered."""
        return (1,) * self.many

    def has(self, thing):
        """Whether a thing, whatever it is, has 0 or 1 for each number."""
        return is_tuple_of(thing, self.many, self.many) and are_between(thing, 0, 1)

    def nexts(self, standing):
        """The least number still to be covered, by each row that has it."""
        if 1 not in standing:
            return ()
        least = standing.index(1)
        return tuple([(1, covered(standing, row)) for row in self.rows if least in row])

    def is_done(self, standing):
        """Whether nothing is left to be covered."""
        return 1 not in standing

    def bound(self, standing):
        """How many rows it takes at least, if each were as long as the longest."""
        longest = max([len(row) for row in self.rows])
        return (sum(standing) + longest - 1) // longest

    def cut(self, standing):
        """Whether some number to be covered is in no row."""
        # What is left when every row was taken, no row can cover.
        for row in self.rows:
            standing = covered(standing, row)
        return 1 in standing
