"""Edits of told tasks, and ways carried over to another task."""

from seekways.errors import BadEdit, BadTask
from seekways.forms import is_between, is_tuple_of
from seekways.told import NEXTS, Told
from seekways.ways import Way

# The fields of a table's row, in its order; the first is edited pair by pair.
FIELDS = ("nexts", "done", "name", "bound", "cut")


def put_at(things, at, *thing):
    """A tuple with something else, or nothing, in one place."""
    return things[:at] + thing + things[at + 1:]


def edited_nexts(nexts, word, parts):
    """The nexts of a row when they are edited, None where that can't be."""
    if word == "add" and len(parts) == 2:
        return nexts + (tuple(parts),)
    if not is_between(parts[0], 0, len(nexts) - 1):
        return None
    at = parts[0]
    cost, to = nexts[at]
    if word == "drop" and len(parts) == 1:
        return put_at(nexts, at)
    if word == "cost" and len(parts) == 2:
        return put_at(nexts, at, (parts[1], to))
    if word == "to" and len(parts) == 2:
        return put_at(nexts, at, (cost, parts[1]))
    return None


def edited_row(row, word, parts):
    """A row of a table when it is edited, None where that can't be."""
    if word in FIELDS[1:]:
        return put_at(row, FIELDS.index(word), parts[0]) if len(parts) == 1 else None
    nexts = edited_nexts(row[NEXTS], word, parts)
    return None if nexts is None else put_at(row, NEXTS, nexts)


def edited(task, edit):
    """The told task that comes of an edit, whatever that is."""
    if not is_tuple_of(edit, 3, 4) or not is_between(edit[1], 0, len(task) - 1):
        raise BadEdit()
    word, at, *parts = edit
    row = edited_row(task.table[at], word, parts)
    if row is None:
        raise BadEdit()
    try:
        return Told(put_at(task.table, at, row), turns=task.maps, ends=task.targets, heads=task.heads)
    except BadTask:
        raise BadEdit() from None


def opened_standings(book):
    """The standings of a book's opened rows, in the order of their openings."""
    return tuple([book.standing_of(of) for word, of in book.openings() if word == "row"])


def carried(way, task):
    """A new way of the same words over another task, to which what this one opened is a hint."""
    book = way.book()
    made = Way(task, way.kind(), alike=book.alike())
    made.book().hint(opened_standings(book))
    return made
