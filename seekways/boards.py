"""Boards: cells to be coloured, so that no group has a colour twice."""

from seekways.forms import are_between, are_numbers, are_rising_rows, are_turns, are_within
from seekways.forms import demand, is_between, is_tuple_of
from seekways.tasks import Task

MOST_CELLS = 9
MOST_COLOURS = 4
MOST_GROUPS = 12


class Board(Task):
    """A task whose standings have a colour for each cell, 0 for an empty one."""

    def __init__(self, cells, colours, groups, *, turns=()):
        demand(is_tuple_of(cells, 1, MOST_CELLS) and are_numbers(cells, 0), "cells")
        demand(is_between(colours, 1, MOST_COLOURS), "colours")
        demand(are_rising_rows(groups, MOST_GROUPS), "groups")
        demand(are_turns(turns, 1), "turns")
        demand(are_within(cells, colours + 1), "cells")
        demand(all([are_within(group, len(cells)) for group in groups]), "groups")
        every = list(range(1, colours + 1))
        demand(all([sorted(turn) == every for turn in turns]), "turns")
        self.cells = cells
        self.colours = colours
        self.groups = groups
        self.turns = turns

    def start(self):
        """The cells as handed in."""
        return self.cells

    def has(self, thing):
        """Whether a thing, whatever it is, has a colour or 0 for each cell."""
        many = len(self.cells)
        return is_tuple_of(thing, many, many) and are_between(thing, 0, self.colours)

    def nexts(self, standing):
        """The first empty cell with each colour that is free there."""
        if 0 not in standing:
            return ()
        cell = standing.index(0)
        free = self.free_colours(standing, cell)
        return tuple([(1, standing[:cell] + (colour,) + standing[cell + 1:]) for colour in free])

    def is_done(self, standing):
        """Whether every cell has a colour, and no group one twice."""
        return 0 not in standing and not self.has_twice(standing)

    def bound(self, standing):
        """How many cells are empty."""
        return standing.count(0)

    def cut(self, standing):
        """Whether a group has a colour twice, or an empty cell can have none."""
        if self.has_twice(standing):
            return True
        empty = [cell for cell, colour in enumerate(standing) if colour == 0]
        return any([not self.free_colours(standing, cell) for cell in empty])

    def turnings(self):
        """How many turns were handed in."""
        return len(self.turns)

    def turned(self, number, standing):
        """The standing with each colour put otherwise, empty cells left empty."""
        turn = (0,) + self.turns[number]
        return tuple([turn[colour] for colour in standing])

    def free_colours(self, standing, cell):
        """The colours, rising, that no other cell of a group of this cell has."""
        taken = [standing[other] for group in self.groups if cell in group for other in group if other != cell]
        return [colour for colour in range(1, self.colours + 1) if colour not in taken]

    def has_twice(self, standing):
        """Whether some group has a colour twice."""
        for group in self.groups:
            shown = [standing[cell] for cell in group if standing[cell] != 0]
            if len(set(shown)) < len(shown):
                return True
        return False
