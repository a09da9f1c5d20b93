"""Backs: what leads to an end within a radius, and when a back is right for a task."""

from seekways.answers import at_most
from seekways.forms import is_from, is_tuple_of, is_worth
from seekways.looks import look_ahead
from seekways.wholes import MOST_ROWS, is_standing


def is_back_pair(thing, radius):
    """Whether a thing is a pair (standing, distance) within a radius."""
    if not is_tuple_of(thing, 2, 2) or not is_standing(thing[0]):
        return False
    return is_from(thing[1], 0) and at_most(thing[1], radius)


def is_back(thing):
    """Whether a thing has the form of a back."""
    if not is_tuple_of(thing, 2, 2):
        return False
    radius, pairs = thing
    if not is_worth(radius) or not is_tuple_of(pairs, 0, MOST_ROWS):
        return False
    if not all([is_back_pair(pair, radius) for pair in pairs]):
        return False
    return len(distances_of(thing)) == len(pairs)


def distances_of(back):
    """The distance of each standing of a back."""
    return {standing: distance for standing, distance in back[1]}


def back_holds(task, thing):
    """Whether a thing, whatever it is, is a back that is right for a task."""
    if task.ends() is None or not is_back(thing):
        return False
    radius = thing[0]
    distances = distances_of(thing)
    if not all([task.has(standing) for standing in distances]):
        return False
    if radius != 0 and not all([distances.get(end) == 0 for end in task.ends()]):
        return False
    return all([leads_back(task, standing, distances, radius) for standing in distances])


def leads_back(task, standing, distances, radius):
    """Whether all that is ahead of a standing stands in the back, or beyond its radius."""
    if look_ahead(task, standing) is not None:
        return False
    for cost, one in task.ahead(standing):
        reach = distances[standing] + cost
        within = one in distances and distances[one] <= reach
        if not within and not at_most(radius, reach):
            return False
    return True
