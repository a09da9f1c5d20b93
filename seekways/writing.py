"""What is written of a way, a row of ways, tries or a local change, so that it can be read and gone on with."""

from seekways.errors import BadNumber, BadWay, BadWritten, TooMany
from seekways.forms import is_between, is_from, is_truth, is_tuple_of
from seekways.joined import Joined, are_parts
from seekways.local import Local
from seekways.looks import refuse_break
from seekways.steps import OVER
from seekways.tries import Tries
from seekways.ways import WAYS, Way
from seekways.wholes import WORDS, is_standing


def written(thing):
    """A way, a row of ways, tries or a local change as a tuple; a broken one is refused."""
    if isinstance(thing, Way):
        return written_way(thing)
    if isinstance(thing, Joined):
        return written_row(thing)
    if isinstance(thing, Tries):
        return ("tries", thing.cuts, len(thing.leaves()))
    return ("local", thing.numbers())


def written_way(way):
    """A way as a tuple."""
    book = way.book()
    refuse_break(book.fault)
    return ("way", way.kind(), book.alike(), way.limit(), book.openings())


def written_row(joined):
    """A row of ways as a tuple."""
    book = joined.book()
    refuse_break(book.fault)
    turn, used = joined.turn()
    return ("row", joined.parts, book.alike(), joined.limits(), turn, used, book.openings())


def is_limit(word, thing):
    """Whether a thing is a limit that a word may have."""
    return is_from(thing, 0) if word == "deepen" else thing is None


def are_limits(parts, thing):
    """Whether a thing has a limit for each part."""
    if not is_tuple_of(thing, len(parts), len(parts)):
        return False
    return all([is_limit(word, limit) for (word, share), limit in zip(parts, thing)])


def is_turn_of(parts, turn, used):
    """Whether it can be the turn of a part, with so much of its share done."""
    return is_between(turn, 0, len(parts) - 1) and is_between(used, 0, parts[turn][1] - 1)


def is_opening(thing):
    """Whether a thing has the form of an opening."""
    if not is_tuple_of(thing, 2, 2):
        return False
    word, of = thing
    return (word == "row" and is_from(of, 0)) or (word == "back" and is_standing(of))


def are_openings(thing):
    """Whether a thing is a tuple of openings."""
    return isinstance(thing, tuple) and all([is_opening(opening) for opening in thing])


def demand_written(holds):
    """Refuse what was read, where it isn't as it may be."""
    if not holds:
        raise BadWritten()


def read(task, thing):
    """The way, row of ways, tries or local change that was written, over a task."""
    demand_written(isinstance(thing, tuple) and len(thing) > 0)
    kind, *parts = thing
    if kind == "way":
        return read_way(task, parts)
    if kind == "row":
        return read_row(task, parts)
    if kind == "tries":
        return read_tries(task, parts)
    demand_written(kind == "local")
    return read_local(task, parts)


def read_way(task, things):
    """The way that was written so."""
    demand_written(len(things) == 4)
    word, alike, limit, openings = things
    demand_written(word in WAYS and alike in WORDS and is_limit(word, limit) and are_openings(openings))
    try:
        way = Way(task, word, alike=alike)
    except BadWay:
        raise BadWritten() from None
    open_again(way.book(), openings)
    way.resume(limit)
    return way


def read_row(task, things):
    """The row of ways that was written so."""
    demand_written(len(things) == 6)
    parts, alike, limits, turn, used, openings = things
    demand_written(are_parts(parts) and alike in WORDS and are_limits(parts, limits))
    demand_written(is_turn_of(parts, turn, used) and are_openings(openings))
    joined = Joined(task, parts, alike=alike)
    open_again(joined.book(), openings)
    joined.resume(limits, turn, used)
    return joined


def open_again(book, openings):
    """Make openings once more, each just so."""
    for word, of in openings:
        if word == "row":
            demand_written(of in book.waiting())
            book.open_row(of)
        else:
            demand_written(of == book.next_back())
            book.open_back()


def read_tries(task, things):
    """The tries that were written so."""
    demand_written(len(things) == 2)
    cuts, many = things
    demand_written(is_truth(cuts) and is_from(many, 0))
    tries = Tries(task, cuts=cuts)
    try:
        for leaf in range(many):
            demand_written(tries.step() != OVER)
    except TooMany:
        raise BadWritten() from None
    return tries


def read_local(task, things):
    """The local change that was written so."""
    demand_written(len(things) == 1)
    try:
        return Local(task, things[0])
    except BadNumber:
        raise BadWritten() from None
