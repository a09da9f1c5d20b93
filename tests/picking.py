"""What a word picks, reckoned otherwise: over all ways through a book's rows."""

from seekways.wholes import NEVER
from tests.reckoned import base, lower, reached, upper

ENDLESS = 10 ** 9


def sums(book, task):
    """Of each waiting row what it costs to reach it and its base, together; NEVER as more than all else."""
    found = {}
    for number in range(book.known()):
        if book.state_of(number) == ("waiting",):
            low = base(book, task, number)
            found[number] = ENDLESS if low == NEVER else reached(book, task, number) + low
    return found


def expected(book, task, word, limit):
    """The row picked, None where there is none, and the limit then."""
    found = sums(book, task)
    rows = sorted(found)
    if not rows:
        return (None, limit)
    if word == "deep":
        return (rows[-1], limit)
    if word == "wide":
        return (rows[0], limit)
    if word in ("costs", "ends"):
        return (min(rows, key=lambda number: (reached(book, task, number), number)), limit)
    if word == "bounds":
        return (min(rows, key=lambda number: (found[number], number)), limit)
    if word == "branch":
        best = upper(book, task, 0)
        rows = [number for number in rows if best is None or found[number] < best[0]]
        return (rows[-1] if rows else None, limit)
    while True:
        within = [number for number in rows if found[number] <= (ENDLESS if limit == NEVER else limit)]
        if within:
            return (within[-1], limit)
        limit = NEVER if min(found.values()) == ENDLESS else min(found.values())


def told(book, task):
    """What a book that isn't broken tells, by all ways through its rows."""
    low, high = lower(book, task, 0), upper(book, task, 0)
    if low == NEVER:
        return ("never",)
    if high is not None and high[0] == low:
        return ("best", low)
    return ("open", low, None if high is None else high[0])
