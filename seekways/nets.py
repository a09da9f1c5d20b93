"""Nets: places, ways between them, and goals among them."""

from seekways.forms import MOST_BOUND, MOST_NEXTS, are_between, are_numbers, are_pairs, are_pairs_within
from seekways.forms import are_rising, are_turns, are_within, demand, is_from, is_tuple_of, to_standings
from seekways.tasks import Task
from seekways.wholes import is_standing

MOST_PLACES = 12


def are_ways(ways):
    """Whether a thing has at most 8 pairs (cost, place) for each of 1 to 12 places."""
    return is_tuple_of(ways, 1, MOST_PLACES) and all([are_pairs(pairs, MOST_NEXTS) for pairs in ways])


def are_guesses(guesses):
    """Whether a thing is None or a tuple of bounds."""
    if guesses is None:
        return True
    return isinstance(guesses, tuple) and are_between(guesses, 0, MOST_BOUND)


class Net(Task):
    """A task whose standings are places, each as a tuple of one."""

    def __init__(self, first, ways, goals, *, guesses=None, turns=()):
        demand(is_from(first, 0), "first")
        demand(are_ways(ways), "ways")
        demand(are_numbers(goals, 0) and are_rising(goals), "goals")
        demand(are_guesses(guesses), "guesses")
        demand(are_turns(turns, 0), "turns")
        many = len(ways)
        demand(first < many, "first")
        demand(all([are_pairs_within(pairs, many) for pairs in ways]), "ways")
        demand(are_within(goals, many), "goals")
        demand(guesses is None or len(guesses) == many, "guesses")
        demand(all([len(turn) == many and are_within(turn, many) for turn in turns]), "turns")
        self.first = first
        self.ways = ways
        self.goals = goals
        self.guesses = guesses
        self.turns = turns

    def start(self):
        """The first place."""
        return (self.first,)

    def has(self, thing):
        """Whether a thing, whatever it is, is a place as a tuple of one."""
        return is_standing(thing) and len(thing) == 1 and thing[0] < len(self.ways)

    def nexts(self, standing):
        """The ways of a place."""
        return to_standings(self.ways[standing[0]])

    def is_done(self, standing):
        """Whether a place is a goal."""
        return standing[0] in self.goals

    def bound(self, standing):
        """The guess of a place, 0 where there are no guesses."""
        return 0 if self.guesses is None else self.guesses[standing[0]]

    def turnings(self):
        """How many turns were handed in."""
        return len(self.turns)

    def turned(self, number, standing):
        """The place that a turn has for this one."""
        return (self.turns[number][standing[0]],)

    def ends(self):
        """The goals, as standings."""
        return tuple([(goal,) for goal in self.goals])

    def ahead(self, standing):
        """The ways that lead to a place, from all places that are no goals."""
        return tuple([(cost, (place,)) for place, pairs in enumerate(self.ways) if place not in self.goals
                      for cost, to in pairs if to == standing[0]])
