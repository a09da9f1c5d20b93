"""Tries: all ways through a task in order, leaf by leaf."""

from seekways.answers import MOST_STEPS
from seekways.errors import TooMany
from seekways.looks import look, refuse_break
from seekways.steps import OVER, gone
from seekways.trees import MOST_LEAVES, end_of

MOST_ANSWERS = 100
# A break goes ahead of too many steps, so a try is followed beyond those, but not for ever.
MOST_FOLLOWED = 1000


def lowest(above, below):
    """A fraction in lowest terms."""
    one, other = above, below
    while other != 0:
        one, other = other, one % other
    return (above // one, below // one)


def advanced(trail):
    """A trail whose last step that can be another one is the next one; empty where there is none."""
    trail = list(trail)
    while trail:
        standing, nexts, step = trail.pop()
        if step + 1 < len(nexts):
            return trail + [(standing, nexts, step + 1)]
    return trail


def come_to(trail):
    """The standing that the last step of a trail leads to."""
    standing, nexts, step = trail[-1]
    return nexts[step][1]


def steps_of(trail):
    """The steps of a trail."""
    return tuple([step for standing, nexts, step in trail])


def cost_along(trail):
    """What the steps of a trail cost, together."""
    return sum([nexts[step][0] for standing, nexts, step in trail])


class Tries:
    """All tries of a task, with cuts or without."""

    def __init__(self, task, *, cuts=False):
        self.task = task
        self.cuts = cuts
        # The standings gone on from to the last leaf, each with its nexts and the step taken.
        self.trail = []
        self.told_leaves = []
        self.told_answers = []
        self.part = (0, 1)
        self.looked = {}
        self.fault = None
        self.excess = None

    def leaves(self):
        """The leaves so far."""
        refuse_break(self.fault)
        return tuple(self.told_leaves)

    def answers(self):
        """The answers so far, each with its cost."""
        refuse_break(self.fault)
        return tuple(self.told_answers)

    def shut(self):
        """The part of all tries that the leaves so far have, in lowest terms."""
        refuse_break(self.fault)
        return self.part

    def is_over(self):
        """Whether the last leaf is told."""
        refuse_break(self.fault)
        return len(self.told_leaves) > 0 and not advanced(self.trail)

    def step(self):
        """Come to the next leaf, and tell it."""
        if self.is_over():
            return OVER
        self.refuse_excess()
        trail, why = self.next_leaf()
        self.excess = self.too_many(trail, why)
        self.refuse_excess()
        leaf = (steps_of(trail), why)
        self.trail = trail
        self.told_leaves.append(leaf)
        if why == "done":
            self.told_answers.append((leaf[0], cost_along(trail)))
        self.shut_leaf()
        return leaf

    def go(self, steps):
        """Do so many steps, fewer where it is over then; tell how many."""
        refuse_break(self.fault)
        return gone(self, steps)

    def next_leaf(self):
        """The trail to the next leaf, and why that ends; None where it isn't followed so far."""
        trail = advanced(self.trail)
        standing = come_to(trail) if trail else self.task.start()
        way = [one for one, nexts, step in trail]
        why = end_of(self.task, standing, way, self.cuts)
        while why is None and len(trail) < MOST_FOLLOWED:
            self.look_once(standing)
            nexts = self.task.nexts(standing)
            trail.append((standing, nexts, 0))
            way.append(standing)
            standing = nexts[0][1]
            why = end_of(self.task, standing, way, self.cuts)
        return (trail, why)

    def look_once(self, standing):
        """Look at a standing that is gone on from, if that is the first time."""
        if standing in self.looked:
            return
        self.fault = look(self.task, standing)
        refuse_break(self.fault)
        self.looked[standing] = True

    def too_many(self, trail, why):
        """How many may be of what a leaf would make too many, None where it doesn't."""
        is_long = len(trail) > MOST_STEPS
        # What is done after too many steps is no answer.
        if why == "done" and not is_long and len(self.told_answers) == MOST_ANSWERS:
            return MOST_ANSWERS
        if len(self.told_leaves) == MOST_LEAVES:
            return MOST_LEAVES
        return MOST_STEPS if is_long else None

    def refuse_excess(self):
        """Refuse a step where there would be more of something than may be."""
        if self.excess is not None:
            raise TooMany(self.excess)

    def shut_leaf(self):
        """Let the last leaf's share be shut, too."""
        share = 1
        for standing, nexts, step in self.trail:
            share *= len(nexts)
        above, below = self.part
        self.part = lowest(above * share + below, below * share)
