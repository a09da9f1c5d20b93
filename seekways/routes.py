"""The answer of a book: steps along its rows, and along its back."""

from seekways.ledger import DONE
from seekways.looks import label, look_alike, refuse_break


def giving_step(ledger, highs, number):
    """The first step of a row's standing by which its upper value comes about, None where none does."""
    for step, (cost, to) in enumerate(ledger.links[number]):
        high = highs[to]
        if high is not None and (cost + high[0], high[1] + 1) == highs[number]:
            return step
    return None


def gone_step(ledger, number, step, standing):
    """The step of a standing that goes as this one of a row of its label, and where it leads."""
    cost, to = ledger.links[number][step]
    if standing == ledger.standings[number]:
        return (step, ledger.standings[to])
    name = label(ledger.task, ledger.word, ledger.standings[to])
    # A look at the two told nothing, so there is such a next.
    fitting = [(other, one) for other, (price, one) in enumerate(ledger.task.nexts(standing))
               if price == cost and label(ledger.task, ledger.word, one) == name]
    return fitting[0]


def back_steps(task, settled, standing):
    """The steps along a back from a settled standing to an end."""
    steps = []
    distance, many = settled[standing]
    while many > 0:
        fitting = [(step, cost, to) for step, (cost, to) in enumerate(task.nexts(standing))
                   if settled.get(to) == (distance - cost, many - 1)]
        step, cost, standing = fitting[0]
        steps.append(step)
        distance -= cost
        many -= 1
    return steps


def answer_steps(ledger, highs, settled):
    """The steps by which row 0's upper value comes about; a break met on the way is refused."""
    steps = []
    number = 0
    standing = ledger.standings[0]
    while ledger.states[number] != DONE:
        step = giving_step(ledger, highs, number)
        if step is None:
            return tuple(steps + back_steps(ledger.task, settled, standing))
        to = ledger.links[number][step][1]
        step, standing = gone_step(ledger, number, step, standing)
        steps.append(step)
        number = ledger.root(to)
        row = ledger.standings[number]
        if standing != row:
            refuse_break(look_alike(ledger.task, ledger.word, row, standing))
    return tuple(steps)
