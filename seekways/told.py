"""Told tasks: each door read off a table that is handed in."""

from seekways.errors import BadTask
from seekways.forms import MOST_BOUND, MOST_NEXTS, MOST_TURNS
from seekways.forms import are_numbers, are_pairs, are_pairs_within, are_rising, are_within
from seekways.forms import is_between, is_truth, is_tuple_of, to_standings
from seekways.tasks import Task
from seekways.wholes import is_standing

MOST_TOLD = 24
MOST_NAME = 99
MOST_HEADS = 200

NEXTS = 0
DONE = 1
NAME = 2
BOUND = 3
CUT = 4


def is_table_row(row, many):
    """Whether a thing is a row of a table of so many rows."""
    if not is_tuple_of(row, 5, 5):
        return False
    nexts, done, name, bound, cut = row
    if not are_pairs(nexts, MOST_NEXTS) or not are_pairs_within(nexts, many):
        return False
    if not is_truth(done) or not is_truth(cut):
        return False
    return is_between(name, 0, MOST_NAME) and is_between(bound, 0, MOST_BOUND)


def is_turn(turn, many):
    """Whether a thing has a row's number for each of so many rows."""
    return are_numbers(turn, 0) and len(turn) == many and are_within(turn, many)


def wrong_turn(turns, many):
    """The number that tells what is wrong with turns, None if nothing is."""
    if not isinstance(turns, tuple):
        return 0
    if len(turns) > MOST_TURNS:
        return MOST_TURNS
    for number, turn in enumerate(turns):
        if not is_turn(turn, many):
            return number
    return None


def are_ends(ends, many):
    """Whether a thing is None or rising numbers of so many rows."""
    if ends is None:
        return True
    return are_numbers(ends, 0) and are_within(ends, many) and are_rising(ends)


def are_heads(heads, ends, many):
    """Whether a thing tells, beside these ends, what is ahead of each of so many rows."""
    if ends is None:
        return heads is None
    if not is_tuple_of(heads, many, many):
        return False
    return all([are_pairs(head, MOST_HEADS) and are_pairs_within(head, many) for head in heads])


def wrong_place(rows, turns, ends, heads):
    """The place of the first thing that isn't as told, None if all is."""
    if not is_tuple_of(rows, 1, MOST_TOLD):
        return ()
    many = len(rows)
    for number, row in enumerate(rows):
        if not is_table_row(row, many):
            return ("row", number)
    turn = wrong_turn(turns, many)
    if turn is not None:
        return ("turn", turn)
    if not are_ends(ends, many):
        return ("ends",)
    if not are_heads(heads, ends, many):
        return ("heads",)
    return None


class Told(Task):
    """A task told by a table, which may break any saying."""

    def __init__(self, rows, *, turns=(), ends=None, heads=None):
        place = wrong_place(rows, turns, ends, heads)
        if place is not None:
            raise BadTask(place)
        self.table = rows
        self.maps = turns
        self.targets = ends
        self.heads = heads

    def __eq__(self, other):
        return (isinstance(other, Told) and self.table == other.table and self.maps == other.maps
                and self.targets == other.targets and self.heads == other.heads)

    def __len__(self):
        return len(self.table)

    def __str__(self):
        return f"told task of {len(self.table)} standings"

    def start(self):
        """The standing of row 0."""
        return (0,)

    def has(self, thing):
        """Whether a thing, whatever it is, is a row's number as a tuple of one."""
        return is_standing(thing) and len(thing) == 1 and thing[0] < len(self.table)

    def nexts(self, standing):
        """What comes next, as the row tells it."""
        return to_standings(self.table[standing[0]][NEXTS])

    def is_done(self, standing):
        """Whether the row says done."""
        return self.table[standing[0]][DONE]

    def named(self, standing):
        """The row's name, as a tuple of one."""
        return (self.table[standing[0]][NAME],)

    def bound(self, standing):
        """The row's bound."""
        return self.table[standing[0]][BOUND]

    def cut(self, standing):
        """Whether the row says cut."""
        return self.table[standing[0]][CUT]

    def turnings(self):
        """How many turns were handed in."""
        return len(self.maps)

    def turned(self, number, standing):
        """The standing that a turn has for this one."""
        return (self.maps[number][standing[0]],)

    def ends(self):
        """The ends as standings, None where they aren't told."""
        if self.targets is None:
            return None
        return tuple([(number,) for number in self.targets])

    def ahead(self, standing):
        """What the heads tell of a row, nothing where there are none."""
        if self.heads is None:
            return ()
        return to_standings(self.heads[standing[0]])
