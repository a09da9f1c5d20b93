"""Given tasks made by a seed, small ones that keep their sayings; and what is counted over a whole task."""

import random

from seekways.boards import Board
from seekways.covers import Cover
from seekways.nets import Net
from seekways.orders import Orders
from seekways.rooms import Rooms
from tests.helpers import all_from_start
from tests.makers import kept_told
from tests.samples import kept


def some_numbers(rng, many, least=0):
    """Rising numbers below many."""
    return tuple(sorted(rng.sample(range(many), rng.randint(least, many))))


def board(rng):
    cells, colours = rng.randint(1, 4), rng.randint(1, 3)
    groups = tuple(some_numbers(rng, cells) for group in range(rng.randint(0, 3)))
    start = tuple(rng.choice((0, 0, 0, rng.randint(0, colours))) for cell in range(cells))
    turns = tuple(tuple(rng.sample(range(1, colours + 1), colours)) for turn in range(rng.randint(0, 2)))
    return Board(start, colours, groups, turns=turns)


def net(rng):
    many = rng.randint(1, 7)
    ways = tuple(tuple((rng.randint(0, 5), rng.randrange(many)) for way in range(rng.randint(0, 4)))
                 for place in range(many))
    goals = tuple(sorted(rng.sample(range(many), rng.randint(0, min(2, many)))))
    return Net(rng.randrange(many), ways, goals)


def cover(rng):
    many = rng.randint(1, 5)
    return Cover(many, tuple(some_numbers(rng, many, 1) for number in range(rng.randint(1, 5))))


def rooms(rng):
    return Rooms(tuple(rng.randint(1, 6) for thing in range(rng.randint(1, 4))), rng.randint(1, 3), rng.randint(3, 9))


def orders(rng):
    return Orders(tuple((rng.randint(1, 6), rng.randint(0, 12)) for job in range(rng.randint(1, 4))))


MAKERS = (board, net, cover, rooms, orders)


def given_task(seed):
    """A board, a net, a cover, rooms or orders."""
    return MAKERS[seed % len(MAKERS)](random.Random(seed))


def kept_tasks(many):
    """Tasks of each kind that keep their sayings: samples, and so many told and given ones."""
    return [*kept(), *[kept_told(seed) for seed in range(many)], *[given_task(seed) for seed in range(many)]]


def all_to_ends(task):
    """All standings that lead to an end, as the task tells what is ahead; none where it tells no ends."""
    met = list(task.ends() or ())
    for standing in met:
        for cost, one in task.ahead(standing):
            if one not in met:
                met.append(one)
    return met


def most_steps(task, word):
    """How many steps a way by a word does at most."""
    return len(all_from_start(task)) + (len(all_to_ends(task)) if word == "ends" else 0)
