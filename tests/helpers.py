"""What several tests need: rows of tables, odd things, walks over a task, a watched task."""

from seekways.errors import BadTask
from seekways.tasks import Task


def row(*nexts, done=False, name=0, bound=0, cut=False):
    """A row of a told task's table."""
    return (tuple(nexts), done, name, bound, cut)


def deep(many):
    """A tuple within a tuple, so many times."""
    thing = (0,)
    for at in range(many):
        thing = (thing,)
    return thing


# Nothing here is a whole number or has the form of a standing.
ODD = (
    None, True, False, "", "0", "(0,)", [], [0], {}, {0: 0}, {"a": [1]}, (), (None,), (True,), (False,),
    ("0",), ([0],), ((0,),), ({},), (0, None), (0, True), (-1,), (1000,), (0, 1000), (0, -1), [(0,)],
    tuple([0] * 13), tuple([0] * 1000), deep(20), {"rows": [(0,), None, {"a": (1, [2])}]},
)


def place_of(test, made, *parts, **named):
    """The place with which making a task is refused."""
    with test.assertRaises(BadTask) as caught:
        made(*parts, **named)
    return caught.exception.place


def all_from_start(task):
    """All standings that come from the start, as they come."""
    met = [task.start()]
    for standing in met:
        if not task.is_done(standing):
            for cost, to in task.nexts(standing):
                if to not in met:
                    met.append(to)
    return met


class Watched(Task):
    """Another task, which writes down what is asked and fails where that may not be asked."""

    def __init__(self, task):
        self.inner = task
        self.asked = []

    def start(self):
        return self.inner.start()

    def has(self, thing):
        return self.inner.has(thing)

    def nexts(self, standing):
        if self.inner.is_done(standing):
            raise AssertionError(f"nexts asked of {standing}, which is done")
        self.asked.append(("nexts", standing))
        return self.inner.nexts(standing)

    def is_done(self, standing):
        if not self.inner.has(standing):
            raise AssertionError(f"done asked of {standing}, which is no standing")
        return self.inner.is_done(standing)

    def named(self, standing):
        return self.inner.named(standing)

    def bound(self, standing):
        return self.inner.bound(standing)

    def cut(self, standing):
        return self.inner.cut(standing)

    def turnings(self):
        return self.inner.turnings()

    def turned(self, number, standing):
        return self.inner.turned(number, standing)

    def ends(self):
        return self.inner.ends()

    def ahead(self, standing):
        self.asked.append(("ahead", standing))
        return self.inner.ahead(standing)
