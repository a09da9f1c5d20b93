"""Local changes: numbers that lead through a task, made better one by one."""

from seekways.answers import is_answer
from seekways.errors import BadNumber
from seekways.forms import are_between, is_tuple_of
from seekways.steps import OVER, gone

MOST_NUMBERS = 12
MOST_NUMBER = 7


def led(task, numbers):
    """The steps that numbers lead along, and what that is worth; the lesser is better."""
    refuse_numbers(numbers)
    standing = task.start()
    met = {standing: True}
    steps = []
    total = 0
    for number in numbers:
        # Nexts aren't to be asked of a done one.
        nexts = () if task.is_done(standing) else task.nexts(standing)
        if not nexts:
            break
        step = number % len(nexts)
        cost, to = nexts[step]
        if to in met:
            break
        met[to] = True
        standing = to
        steps.append(step)
        total += cost
    if task.is_done(standing):
        return (tuple(steps), (0, total, len(steps)))
    return (tuple(steps), (1, task.bound(standing), len(steps)))


def refuse_numbers(thing):
    """Refuse what isn't 1 to 12 numbers from 0 to 7."""
    if not is_tuple_of(thing, 1, MOST_NUMBERS) or not are_between(thing, 0, MOST_NUMBER):
        raise BadNumber(thing)


def changes(numbers):
    """All changes of one number, place by place, each other number rising."""
    return [numbers[:place] + (other,) + numbers[place + 1:]
            for place, number in enumerate(numbers) for other in range(MOST_NUMBER + 1) if other != number]


class Local:
    """Numbers of a task, changed one at a time as long as that is better."""

    def __init__(self, task, numbers):
        refuse_numbers(numbers)
        self.task = task
        self.chosen = numbers

    def numbers(self):
        """The numbers as they are now."""
        return self.chosen

    def answer(self):
        """The steps that the numbers lead along where these are an answer, else None."""
        steps, worth = led(self.task, self.chosen)
        return steps if is_answer(self.task, steps) else None

    def is_over(self):
        """Whether no change is better."""
        return self.better() is None

    def step(self):
        """Make the first change that is better, and tell it."""
        change = self.better()
        if change is None:
            return OVER
        self.chosen = change
        return ("changed", change)

    def go(self, steps):
        """Do so many steps, fewer where it is over then; tell how many."""
        return gone(self, steps)

    def better(self):
        """The first change that is better, None where none is."""
        steps, worth = led(self.task, self.chosen)
        for change in changes(self.chosen):
            if led(self.task, change)[1] < worth:
                return change
        return None
