"""Forms of what is handed in, looked at before anything is made of it."""

from seekways.errors import BadTask
from seekways.wholes import NEVER, is_whole

MOST_COST = 1000
MOST_BOUND = 100000
MOST_NEXTS = 8
MOST_TURNS = 3


def is_from(thing, low):
    """Whether a thing is a whole number from low on."""
    return is_whole(thing) and thing >= low


def is_between(thing, low, high):
    """Whether a thing is a whole number from low to high."""
    return is_whole(thing) and low <= thing <= high


def are_between(things, low, high):
    """Whether all things are whole numbers from low to high."""
    return all([is_between(thing, low, high) for thing in things])


def is_worth(thing):
    """Whether a thing is a whole number from 0 on, or NEVER."""
    return is_from(thing, NEVER)


def is_truth(thing):
    """Whether a thing is True or False."""
    return isinstance(thing, bool)


def is_tuple_of(thing, least, most):
    """Whether a thing is a tuple of least to most things."""
    return isinstance(thing, tuple) and least <= len(thing) <= most


def are_numbers(thing, low):
    """Whether a thing is a tuple of whole numbers from low on."""
    return isinstance(thing, tuple) and all([is_from(number, low) for number in thing])


def are_within(numbers, many):
    """Whether all numbers are below many."""
    return all([number < many for number in numbers])


def are_rising(numbers):
    """Whether each number is above the one ahead of it."""
    return all([low < high for low, high in zip(numbers, numbers[1:])])


def are_rising_rows(thing, most):
    """Whether a thing is a tuple of at most so many tuples of rising numbers from 0 on."""
    if not is_tuple_of(thing, 0, most):
        return False
    return all([are_numbers(row, 0) and are_rising(row) for row in thing])


def are_turns(thing, low):
    """Whether a thing is a tuple of turns, each of whole numbers from low on."""
    return is_tuple_of(thing, 0, MOST_TURNS) and all([are_numbers(turn, low) for turn in thing])


def is_pair(thing):
    """Whether a thing is a pair (cost, number), the number any from 0 on."""
    return is_tuple_of(thing, 2, 2) and is_between(thing[0], 0, MOST_COST) and is_from(thing[1], 0)


def are_pairs(thing, most):
    """Whether a thing is a tuple of at most so many pairs (cost, number)."""
    return is_tuple_of(thing, 0, most) and all([is_pair(pair) for pair in thing])


def are_pairs_within(pairs, many):
    """Whether the numbers of all pairs (cost, number) are below many."""
    return are_within([number for cost, number in pairs], many)


def to_standings(pairs):
    """Pairs (cost, number) as pairs (cost, standing)."""
    return tuple([(cost, (number,)) for cost, number in pairs])


def demand(holds, name):
    """Refuse what was handed in by this name, where it isn't as told."""
    if not holds:
        raise BadTask((name,))
