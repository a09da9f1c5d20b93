"""What tests of the desk need: rows of tasks, and a desk that holds some."""

from seekways.desk import Desk
from seekways.texts import task_text
from seekways.told import Told
from tests.helpers import row
from tests.samples import ENDED
from tests.test_picks import FORK

# 2 breaks its bound as soon as it is opened; by name 1 and 2 are two.
BREAKS = Told((row((1, 1), (1, 2)), row((1, 3), name=1), row((0, 1), name=2, bound=1), row(done=True, name=3)))
NOWHERE = Told((row((1, 1)), row((1, 0), name=1)))
AT_ONCE = Told((row(done=True),))
BROKEN_START = Told((row(done=True, bound=2),))
TASKS = {"fork": FORK, "ended": ENDED, "breaks": BREAKS, "nowhere": NOWHERE, "atonce": AT_ONCE, "start": BROKEN_START}


def task_rows(name, task):
    """The rows of text by which a desk is handed a task."""
    rows = task_text(task).split("\n")[:-1]
    return f"task {name}\n" + "".join(f"  {one}\n" for one in rows)


def desk_with(*names):
    """A desk that holds these tasks."""
    desk = Desk()
    for name in names:
        assert desk.run(task_rows(name, TASKS[name])) == ("done",)
    return desk


def told(desk, *rows):
    """What a desk tells of rows."""
    return list(desk.run("".join(one + "\n" for one in rows)))
