"""Values of a book's rows: lower and upper ones, and what it costs to reach each."""

from seekways.ledger import DONE, OPENED, WAITING
from seekways.wholes import NEVER


def leads_of(ledger):
    """Of each opened row, the last first: its number, and the pairs (cost, root of the next's row)."""
    roots = [ledger.root(number) for number in range(len(ledger.states))]
    # Rows mostly lead to later ones, so values come together soonest from the last row on.
    return [(number, [(cost, roots[to]) for cost, to in ledger.links[number]])
            for number in reversed(range(len(roots))) if ledger.states[number] == OPENED]


def swept(values, leads, least):
    """Values that go together: each opened row's is made anew by its leads, till none gets less."""
    changed = True
    while changed:
        changed = False
        for number, pairs in leads:
            value = least(values, number, pairs)
            if value != values[number]:
                values[number] = value
                changed = True
    return values


def least_low(lows, number, pairs):
    """The least of cost and lower value, together, NEVER where all are."""
    return min([cost + lows[to] for cost, to in pairs if lows[to] != NEVER], default=NEVER)


def least_high(highs, number, pairs):
    """The least of what the row has by itself and what its leads give, None where there is nothing."""
    found = [(cost + highs[to][0], highs[to][1] + 1) for cost, to in pairs if highs[to] is not None]
    if highs[number] is not None:
        found.append(highs[number])
    return min(found, default=None)


def lower_values(ledger, bases):
    """The lower value of each row; bases has those of waiting rows."""
    # All else begins with NEVER and only gets less, so rows that only lead round stay there.
    lows = [0 if state == DONE else bases.get(number, NEVER) for number, state in enumerate(ledger.states)]
    lows = swept(lows, leads_of(ledger), least_low)
    return [lows[ledger.root(number)] for number in range(len(lows))]


def upper_alone(state, mark):
    """The upper value that a row has by itself: done, or by what a back has of it."""
    if state == DONE:
        return (0, 0)
    return mark if state in (WAITING, OPENED) else None


def upper_values(ledger, settled):
    """The upper value of each row, None or (cost, steps); settled has what a back gives."""
    highs = [upper_alone(state, settled.get(standing)) for state, standing in zip(ledger.states, ledger.standings)]
    highs = swept(highs, leads_of(ledger), least_high)
    return [highs[ledger.root(number)] for number in range(len(highs))]


def reached_values(ledger):
    """The least cost over known ways from row 0 to each row."""
    spans = {0: 0}
    changed = True
    while changed:
        changed = False
        for number in range(len(ledger.states)):
            if number in spans:
                changed = spread(spans, number, ledger.links[number]) or changed
    return spans


def spread(spans, number, links):
    """Let a row lead on to others where that costs less; tell whether it does."""
    changed = False
    for cost, to in links:
        span = spans[number] + cost
        if to not in spans or span < spans[to]:
            spans[to] = span
            changed = True
    return changed
