"""Rooms: things to be placed, one after the other, into rooms of one space."""

from seekways.forms import are_between, demand, is_between, is_tuple_of
from seekways.tasks import Task

MOST_THINGS = 8
MOST_ROOMS = 4
MOST_SIZE = 99


def put_into(held, room, size):
    """What the rooms hold when a thing of this size stands in one of them, too."""
    return held[:room] + (held[room] + size,) + held[room + 1:]


class Rooms(Task):
    """A task whose standings tell how many things are placed, then what each room holds."""

    def __init__(self, sizes, rooms, space):
        demand(is_tuple_of(sizes, 1, MOST_THINGS) and are_between(sizes, 1, MOST_SIZE), "sizes")
        demand(is_between(rooms, 1, MOST_ROOMS), "rooms")
        demand(is_between(space, 1, MOST_SIZE), "space")
        self.sizes = sizes
        self.rooms = rooms
        self.space = space

    def start(self):
        """Nothing is placed."""
        return (0,) * (1 + self.rooms)

    def has(self, thing):
        """Whether a thing, whatever it is, has as many things and held space as there may be."""
        if not is_tuple_of(thing, 1 + self.rooms, 1 + self.rooms):
            return False
        return is_between(thing[0], 0, len(self.sizes)) and are_between(thing[1:], 0, self.space)

    def nexts(self, standing):
        """The next thing into each room that has space left for it."""
        if self.is_done(standing):
            return ()
        placed, held = standing[0], standing[1:]
        size = self.sizes[placed]
        fitting = [room for room in range(self.rooms) if held[room] + size <= self.space]
        return tuple([(1 if held[room] == 0 else 0, (placed + 1,) + put_into(held, room, size)) for room in fitting])

    def is_done(self, standing):
        """Whether all things are placed."""
        return standing[0] == len(self.sizes)

    def named(self, standing):
        """The same for all standings that differ by which room is which."""
        return standing[:1] + tuple(sorted(standing[1:]))

    def bound(self, standing):
        """How many more rooms it takes, if things could be split."""
        free = sum([self.space - held for held in standing[1:] if held > 0])
        lacking = sum(self.sizes[standing[0]:]) - free
        return max(0, lacking + self.space - 1) // self.space

    def cut(self, standing):
        """Whether some thing still to be placed fits into no room."""
        free = self.space - min(standing[1:])
        return any([size > free for size in self.sizes[standing[0]:]])
