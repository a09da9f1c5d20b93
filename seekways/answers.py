"""Answers of a task: what is one, what it costs, where it leads; and sums of worths."""

from seekways.forms import is_between, is_tuple_of
from seekways.wholes import NEVER

MOST_STEPS = 60


def is_answer(task, thing):
    """Whether a thing, whatever it is, is an answer of a task."""
    if not is_tuple_of(thing, 0, MOST_STEPS):
        return False
    standing = task.start()
    met = {standing: True}
    for step in thing:
        # The last standing alone is done, and nexts aren't to be asked of a done one.
        if task.is_done(standing):
            return False
        nexts = task.nexts(standing)
        if not is_between(step, 0, len(nexts) - 1):
            return False
        standing = nexts[step][1]
        if standing in met:
            return False
        met[standing] = True
    return task.is_done(standing)


def cost_of(task, steps):
    """What the steps of an answer cost, together."""
    total = 0
    standing = task.start()
    for step in steps:
        cost, standing = task.nexts(standing)[step]
        total += cost
    return total


def way_of(task, steps):
    """The standings on the way of steps that can be gone, the start first."""
    way = [task.start()]
    for step in steps:
        way.append(task.nexts(way[-1])[step][1])
    return tuple(way)


def plus(cost, worth):
    """A cost and a worth together: NEVER where one of them is."""
    if cost == NEVER or worth == NEVER:
        return NEVER
    return cost + worth


def at_most(worth, other):
    """Whether a worth is at most another one, where NEVER is more than any number."""
    if other == NEVER:
        return True
    return worth != NEVER and worth <= other
