"""The task by itself, whose doors other tasks put otherwise."""

from seekways.wholes import is_standing


class Task:
    """A task with one standing, which isn't done and leads nowhere."""

    def start(self):
        """The standing that all begins with."""
        return (0,)

    def has(self, thing):
        """Whether a thing, whatever it is, is a standing of the task."""
        # (False,) equals (0,), so the form is asked first.
        return is_standing(thing) and thing == (0,)

    def nexts(self, standing):
        """What comes next, as pairs (cost, standing)."""
        return ()

    def is_done(self, standing):
        """Whether the task is done there."""
        return False

    def named(self, standing):
        """The name of a standing."""
        return standing

    def bound(self, standing):
        """A bound from below of what it costs to be done from there."""
        return 0

    def cut(self, standing):
        """Whether nothing done can come from there."""
        return False

    def turnings(self):
        """How many turnings the task has."""
        return 0

    def turned(self, number, standing):
        """A standing turned by one of the turnings."""
        return standing

    def ends(self):
        """All done standings, or None where they aren't told."""
        return None

    def ahead(self, standing):
        """What comes ahead of a standing, as pairs (cost, standing)."""
        return ()
