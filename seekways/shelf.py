"""What a desk holds: tasks and ways by their names, and what was written of the ways."""

from seekways.errors import NoName

MOST_HELD = 8


class Shelf:
    """Tasks and ways, each name of one of them alone."""

    def __init__(self):
        self.tasks = {}
        self.ways = {}
        # Of each name what was written last, with the task that it was written over.
        self.writings = {}

    def refuse_new(self, name, held):
        """Refuse a name that is there already, or one more beside those held."""
        if name in self.tasks or name in self.ways or len(held) == MOST_HELD:
            raise NoName()

    def task_named(self, name):
        """The task of that name."""
        if name not in self.tasks:
            raise NoName()
        return self.tasks[name]

    def way_named(self, name):
        """The way of that name."""
        if name not in self.ways:
            raise NoName()
        return self.ways[name]

    def writing_named(self, name):
        """The task, and what was written last over it of the way of that name."""
        if name not in self.writings:
            raise NoName()
        return self.writings[name]

    def drop(self, name):
        """Let a task go, or a way and what was written of it."""
        if name in self.tasks:
            del self.tasks[name]
            return
        self.way_named(name)
        del self.ways[name]
        if name in self.writings:
            del self.writings[name]
