"""Which waiting row a way's word picks."""

from seekways.answers import at_most, plus
from seekways.wholes import NEVER


def rank(worth):
    """A worth as it is compared: NEVER stands above any number."""
    return (1, 0) if worth == NEVER else (0, worth)


def total(book, number):
    """What it costs to reach a row, and its base, together."""
    return plus(book.reached(number), book.base(number))


def pick_deep(book, waiting):
    """The row known last."""
    return waiting[-1]


def pick_wide(book, waiting):
    """The row known first."""
    return waiting[0]


def pick_costs(book, waiting):
    """The row that is reached for the least."""
    # Of like ones, min tells the first, and numbers rise.
    return min(waiting, key=lambda number: book.reached(number))


def pick_bounds(book, waiting):
    """The row by which an answer may cost the least."""
    return min(waiting, key=lambda number: rank(total(book, number)))


def pick_branch(book, waiting):
    """The row known last by which there may be an answer better than the best; None where there is none."""
    best = book.best()
    if best is None:
        return waiting[-1]
    better = [number for number in waiting if not at_most(best, total(book, number))]
    return better[-1] if better else None


PICKS = {
    "deep": pick_deep,
    "wide": pick_wide,
    "costs": pick_costs,
    "bounds": pick_bounds,
    "branch": pick_branch,
    "ends": pick_costs,
}


def pick_deepen(book, waiting, limit):
    """The row known last within the limit, and the limit, grown where no row is within it."""
    totals = [total(book, number) for number in waiting]
    least = min(totals, key=rank)
    grown = limit if at_most(least, limit) else least
    within = [number for number, one in zip(waiting, totals) if at_most(one, grown)]
    return (within[-1], grown)


def picked(book, word, limit):
    """The number of the row that a word picks, None where it picks none, and the limit then."""
    waiting = book.waiting()
    if not waiting:
        return (None, limit)
    if word == "deepen":
        return pick_deepen(book, waiting, limit)
    pick = PICKS[word]
    return (pick(book, waiting), limit)
