"""The back of a book: what leads to an end, settled one by one from the ends on."""

from seekways.errors import TooWide
from seekways.looks import look, look_ahead, refuse_break
from seekways.wholes import MOST_ROWS, NEVER


class Backing:
    """Standings with (distance, steps) to an end, in the order in which they came; some are settled."""

    def __init__(self, task):
        self.task = task
        self.marks = {}
        # Of each settled standing its mark, in the order in which they were settled.
        self.settled = {}
        for end in task.ends():
            self.reach(end, (0, 0))
        self.radius = self.least_distance()

    def copied(self):
        """Another back with the same standings, so that a refused step can be dropped whole."""
        other = Backing(self.task)
        other.marks = {standing: self.marks[standing] for standing in self.marks}
        other.settled = {standing: self.settled[standing] for standing in self.settled}
        other.radius = self.radius
        return other

    def reach(self, standing, mark):
        """Let a standing come in with this mark, or have it instead of a greater one."""
        if standing not in self.marks and len(self.marks) == MOST_ROWS:
            raise TooWide(MOST_ROWS)
        if standing not in self.marks or mark < self.marks[standing]:
            self.marks[standing] = mark

    def unsettled(self):
        """The standings that aren't settled, in the order in which they came."""
        return [standing for standing in self.marks if standing not in self.settled]

    def nearest(self):
        """The least standing that isn't settled, None where all are."""
        # Of like ones, min tells the first.
        return min(self.unsettled(), key=lambda one: self.marks[one], default=None)

    def settle(self):
        """Settle the least standing that isn't, and tell it; None where all are."""
        standing = self.nearest()
        if standing is None:
            return None
        refuse_break(look(self.task, standing))
        refuse_break(look_ahead(self.task, standing))
        distance, steps = self.marks[standing]
        self.settled[standing] = (distance, steps)
        for cost, one in self.task.ahead(standing):
            self.reach(one, (distance + cost, steps + 1))
        self.radius = self.least_distance()
        return standing

    def least_distance(self):
        """The least distance of those that aren't settled, NEVER where all are."""
        return min([self.marks[standing][0] for standing in self.unsettled()], default=NEVER)

    def far(self, standing):
        """What an answer from a standing costs at least, as the back tells it."""
        if standing in self.settled:
            return self.settled[standing][0]
        return self.radius

    def told_back(self):
        """The radius, and the settled ones with their distances."""
        return (self.radius, tuple([(standing, self.settled[standing][0]) for standing in self.settled]))
