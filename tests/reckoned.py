"""A book's values reckoned otherwise: over all ways through its rows, by what its methods tell of them."""

from seekways.errors import Broken, TooWide
from seekways.wholes import NEVER


def leads(book, task, number):
    """Where a row leads: pairs (cost, number)."""
    state = book.state_of(number)
    if state[0] == "like":
        return [(0, state[1])]
    if state != ("opened",):
        return []
    return [(cost, book.number_of(to)) for cost, to in task.nexts(book.standing_of(number))]


def ways(book, task, number):
    """All ways through the rows from one, no row twice: (cost, steps, the last row)."""
    found = []

    def go(at, cost, steps, met):
        found.append((cost, steps, at))
        more = 0 if book.state_of(at)[0] == "like" else 1
        for price, to in leads(book, task, at):
            if to not in met:
                go(to, cost + price, steps + more, met | {to})

    go(number, 0, 0, {number})
    return found


def settled(book, standing):
    """The distance that the back has of a standing, None where it isn't settled."""
    return None if book.back_told() is None else dict(book.back_told()[1]).get(standing)


def base(book, task, number):
    standing = book.standing_of(number)
    bound = task.bound(standing)
    if book.back_told() is None:
        return bound
    far = settled(book, standing)
    far = book.back_told()[0] if far is None else far
    return NEVER if far == NEVER else max(bound, far)


def lower(book, task, number):
    found = []
    for cost, steps, at in ways(book, task, number):
        if book.state_of(at) == ("done",):
            found.append(cost)
        elif book.state_of(at) == ("waiting",) and base(book, task, at) != NEVER:
            found.append(cost + base(book, task, at))
    return min(found, default=NEVER)


def back_value(book, task, standing):
    """(distance, steps) of a settled standing, by all ways over settled ones; None where it isn't."""
    if settled(book, standing) is None:
        return None
    found = []

    def go(at, cost, steps, met):
        if at in task.ends():
            found.append((cost, steps))
        elif not task.is_done(at):
            for price, to in task.nexts(at):
                if to not in met and settled(book, to) is not None:
                    go(to, cost + price, steps + 1, met | {to})

    go(standing, 0, 0, {standing})
    return min(found)


def upper(book, task, number):
    found = []
    for cost, steps, at in ways(book, task, number):
        if book.state_of(at) == ("done",):
            found.append((cost, steps))
        elif book.state_of(at) in (("waiting",), ("opened",)):
            value = back_value(book, task, book.standing_of(at))
            if value is not None:
                found.append((cost + value[0], steps + value[1]))
    return min(found, default=None)


def reached(book, task, number):
    return min(cost for cost, steps, at in ways(book, task, 0) if at == number)


def face(book):
    """All that a book tells of itself, broken or not."""
    rows = tuple((book.standing_of(number), book.state_of(number)) for number in range(book.known()))
    return (book.alike(), rows, book.waiting(), book.progress(), book.back_told(), book.openings())


def refused(test, book, kind, deed, *parts):
    """The refusal with which a deed of a book is refused; all its rows are as they were."""
    before = face(book)
    broken = book.is_broken()
    with test.assertRaises(kind) as caught:
        deed(*parts)
    test.assertIs(caught.exception.__class__, kind)
    test.assertEqual(face(book), before)
    test.assertIs(book.is_broken(), broken or kind is Broken)
    return caught.exception


def fields(error):
    """The fields of a Broken."""
    return (error.saying, error.standing, error.other)


def open_all(book, most=1000):
    """Open rows, the first that waits each time, till none does or it would be too wide."""
    try:
        while book.waiting() and most > 0:
            book.open_row(book.waiting()[0])
            most -= 1
    except TooWide:
        pass
