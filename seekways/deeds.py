"""What each row of a desk's text does, and the text that it tells."""

from seekways.edits import carried, opened_standings
from seekways.errors import BadHint, BadNumber, BadPaper, BadSteps, BadTask, BadWay, BadWritten
from seekways.errors import Broken, NoName, NoText, TooWide
from seekways.texts import listed_text, read_task
from seekways.ways import Way
from seekways.writing import read, written

ALL_DONE = "done"


def do_task(shelf, name, text):
    """Hold the told task of a text."""
    shelf.refuse_new(name, shelf.tasks)
    shelf.tasks[name] = read_task(text)
    return ALL_DONE


def do_way(shelf, name, task_name, word, alike="name"):
    """Hold a new way of a task."""
    shelf.refuse_new(name, shelf.ways)
    shelf.ways[name] = Way(shelf.task_named(task_name), word, alike=alike)
    return ALL_DONE


def do_go(shelf, name, number):
    """Go on with a way."""
    return f"{shelf.way_named(name).go(int(number))} steps"


def do_tell(shelf, name):
    """Tell what a way's book tells, the best with its answer."""
    book = shelf.way_named(name).book()
    word, *fields = book.told()
    if word == "broken":
        return listed_text(f"broken {fields[0]} at", fields[1])
    if word == "best":
        return listed_text(f"best {fields[0]}:", book.answer())
    if word == "never":
        return word
    bound, best = fields
    return f"open {bound}" if best is None else f"open {bound} best {best}"


def do_progress(shelf, name):
    """Tell how many rows of a way don't wait, and how many do."""
    shut, waiting = shelf.way_named(name).book().progress()
    return f"{shut} shut {waiting} waiting"


def do_hint(shelf, name, other):
    """Hand over what another way opened."""
    book = shelf.way_named(name).book()
    return f"{book.hint(opened_standings(shelf.way_named(other).book()))} opened"


def do_offer(shelf, name, other):
    """Hand over another way's answer."""
    book = shelf.way_named(name).book()
    # The other book is asked first: its break goes ahead of all that this one refuses.
    best = book.offer(shelf.way_named(other).book().answer())
    return "no best" if best is None else f"best {best}"


def do_take(shelf, name, other):
    """Hand over another way's paper."""
    book = shelf.way_named(name).book()
    return f"{book.take(shelf.way_named(other).book().paper())} opened"


def do_write(shelf, name):
    """Write a way, and keep that beside it."""
    way = shelf.way_named(name)
    shelf.writings[name] = (way.task, written(way))
    return ALL_DONE


def do_read(shelf, name):
    """Put what was written last of a way in its stead."""
    task, writing = shelf.writing_named(name)
    shelf.ways[name] = read(task, writing)
    return ALL_DONE


def do_carry(shelf, name, task_name):
    """Put a way carried over to another task in its stead."""
    way = shelf.way_named(name)
    shelf.ways[name] = carried(way, shelf.task_named(task_name))
    return ALL_DONE


def do_drop(shelf, name):
    """Let a task or a way go."""
    shelf.drop(name)
    return ALL_DONE


DEEDS = {
    "task": do_task,
    "way": do_way,
    "go": do_go,
    "tell": do_tell,
    "progress": do_progress,
    "hint": do_hint,
    "offer": do_offer,
    "take": do_take,
    "write": do_write,
    "read": do_read,
    "carry": do_carry,
    "drop": do_drop,
}


def done_text(shelf, word, parts):
    """What a row tells when it is done, refused or not."""
    deed = DEEDS[word]
    try:
        return deed(shelf, *parts)
    except NoName:
        return "refused NoName"
    except NoText:
        return "refused NoText"
    except BadTask:
        return "refused BadTask"
    except BadWay:
        return "refused BadWay"
    except Broken:
        return "refused Broken"
    except TooWide:
        return "refused TooWide"
    except BadHint:
        return "refused BadHint"
    except BadSteps:
        return "refused BadSteps"
    except BadPaper:
        return "refused BadPaper"
    except BadWritten:
        return "refused BadWritten"
    except BadNumber:
        return "refused BadNumber"
