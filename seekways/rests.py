"""Rests of tasks, which start elsewhere, and told copies of tasks."""

from seekways.errors import BadTask, TooWide
from seekways.tasks import Task
from seekways.told import MOST_TOLD, Told


class Rest(Task):
    """A task from another start; all other doors are its doors."""

    def __init__(self, task, standing):
        if not task.has(standing):
            raise BadTask(("standing",))
        self.task = task
        self.standing = standing

    def start(self):
        """The standing that was handed in."""
        return self.standing

    def has(self, thing):
        """Whether a thing, whatever it is, is a standing of the task."""
        return self.task.has(thing)

    def nexts(self, standing):
        """What comes next in the task."""
        return self.task.nexts(standing)

    def is_done(self, standing):
        """Whether the task is done there."""
        return self.task.is_done(standing)

    def named(self, standing):
        """The task's name of a standing."""
        return self.task.named(standing)

    def bound(self, standing):
        """The task's bound."""
        return self.task.bound(standing)

    def cut(self, standing):
        """Whether the task is cut there."""
        return self.task.cut(standing)

    def turnings(self):
        """How many turnings the task has."""
        return self.task.turnings()

    def turned(self, number, standing):
        """A standing as the task turns it."""
        return self.task.turned(number, standing)

    def ends(self):
        """The task's ends."""
        return self.task.ends()

    def ahead(self, standing):
        """What comes ahead in the task."""
        return self.task.ahead(standing)


def told_of(task):
    """The told copy of a task, row by row as its standings come from the start."""
    standings = [task.start()]
    places = {task.start(): 0}
    names = {}
    rows = []
    while len(rows) < len(standings):
        standing = standings[len(rows)]
        # Nexts aren't to be asked of a done one.
        nexts = () if task.is_done(standing) else task.nexts(standing)
        for cost, to in nexts:
            if to not in places:
                places[to] = len(standings)
                standings.append(to)
        if len(standings) > MOST_TOLD:
            raise TooWide(MOST_TOLD)
        name = names.setdefault(task.named(standing), len(rows))
        pairs = tuple([(cost, places[to]) for cost, to in nexts])
        rows.append((pairs, task.is_done(standing), name, task.bound(standing), task.cut(standing)))
    return Told(tuple(rows))
