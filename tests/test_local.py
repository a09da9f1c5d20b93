"""Local changes: where numbers lead, what that is worth, and change by change."""

import unittest

from seekways.answers import is_answer
from seekways.errors import BadNumber
from seekways.local import Local, led
from seekways.nets import Net
from seekways.orders import Orders
from seekways.tasks import Task
from seekways.told import Told
from tests.givens import given_task, kept_tasks
from tests.going import refuses_numbers
from tests.helpers import ODD, Watched, row
from tests.makers import broken_told, kept_told

# 0 leads to 1 and 2, 1 to 3 (done) and back, 2 to 4 (nothing next), to itself and to 1.
MAZE = Told((
    row((2, 1), (1, 2), bound=3), row((1, 3), (0, 0), name=1, bound=1), row((1, 4), (0, 2), (0, 1), name=2, bound=1),
    row((1, 0), done=True, name=3), row(name=4, bound=8),
))

NO_NUMBERS = (
    *ODD, 0, 3, (8,), (0, 8), (0, False), (0, "1"), (0, (1,)), (0, [1]), (7,) * 14,
)


def walked(task, numbers):
    """Steps, costs and standings that numbers lead along, by going from standing to standing."""
    way, steps, cost = [task.start()], [], 0
    for number in numbers:
        if task.is_done(way[-1]) or not task.nexts(way[-1]):
            break
        nexts = task.nexts(way[-1])
        price, to = nexts[number % len(nexts)]
        if to in way:
            break
        way.append(to)
        steps.append(number % len(nexts))
        cost += price
    done = task.is_done(way[-1])
    return tuple(steps), (0 if done else 1, cost if done else task.bound(way[-1]), len(steps))


class Led(unittest.TestCase):
    def check(self, numbers, steps, worth):
        self.assertEqual(led(Watched(MAZE), numbers), (steps, worth))

    def test_to_a_done_one(self):
        self.check((0, 0), (0, 0), (0, 3, 2))
        self.check((0, 0, 5, 5, 5), (0, 0), (0, 3, 2))
        self.check((1, 2, 0), (1, 2, 0), (0, 2, 3))
        self.assertEqual(led(Watched(Net(0, (((1, 0),),), (0,))), (3, 4)), ((), (0, 0, 0)))

    def test_to_one_with_nothing_next(self):
        self.check((1, 0), (1, 0), (1, 8, 2))
        self.check((1, 0, 7, 7), (1, 0), (1, 8, 2))
        self.assertEqual(led(Task(), (0,)), ((), (1, 0, 0)))

    def test_numbers_used_up(self):
        self.check((0,), (0,), (1, 1, 1))
        self.check((1, 2), (1, 2), (1, 1, 2))

    def test_a_standing_that_stood_there_ahead(self):
        self.check((0, 1), (0,), (1, 1, 1))
        self.check((0, 1, 0, 0), (0,), (1, 1, 1))
        self.check((1, 1, 0), (1,), (1, 1, 1))
        self.check((1, 2, 1, 0), (1, 2), (1, 1, 2))

    def test_the_rest_by_how_many_nexts_there_are(self):
        self.check((2, 4), (0, 0), (0, 3, 2))
        self.check((7, 5, 6), (1, 2, 0), (0, 2, 3))
        self.check((7, 7), (1,), (1, 1, 1))

    def test_twelve_numbers(self):
        self.check((0,) * 12, (0, 0), (0, 3, 2))

    def test_against_going_otherwise(self):
        for seed, task in enumerate([*kept_tasks(30), *[broken_told(seed) for seed in range(30)]]):
            for numbers in ((0,), (7, 6, 5), (1, 0, 2, 3, 4), tuple((seed * at) % 8 for at in range(1, 13))):
                self.assertEqual(led(Watched(task), numbers), walked(task, numbers))

    def test_numbers_that_are_none(self):
        for thing in NO_NUMBERS:
            for deed in (led, Local):
                for again in range(2):
                    with self.assertRaises(BadNumber) as caught:
                        deed(MAZE, thing)
                    self.assertIs(caught.exception.number, thing)

    def test_no_look_is_made(self):
        broken = Told((row((0, 1), bound=5, cut=True), row(done=True, bound=2)))
        self.assertEqual(led(broken, (0,)), ((0,), (0, 0, 1)))


def face(local):
    return (local.numbers(), local.answer(), local.is_over())


def all_changes(numbers):
    for place in range(len(numbers)):
        for other in range(8):
            if other != numbers[place]:
                yield numbers[:place] + (other,) + numbers[place + 1:]


class Changes(unittest.TestCase):
    def test_each_step(self):
        local = Local(Watched(MAZE), (1, 0, 0))
        self.assertEqual(face(local), ((1, 0, 0), None, False))
        # 0 at the first place leads to 3; then 1, 2, 0 is better by costs, but takes two changes.
        self.assertEqual(local.step(), ("changed", (0, 0, 0)))
        self.assertEqual(face(local), ((0, 0, 0), (0, 0), True))
        self.assertEqual([local.step(), local.go(4)], [("over",), 0])
        self.assertEqual(face(local), ((0, 0, 0), (0, 0), True))

    def test_the_first_better_one_not_the_best(self):
        # 1 is worth (1, 5, 1), then 2 (1, 4, 1), and 3 is done.
        task = Told((row((1, 1), (1, 2), (1, 3)), row(name=1, bound=5), row(name=2, bound=4), row(done=True, name=3)))
        local = Local(task, (0,))
        self.assertEqual([local.step(), local.step(), local.step()], [("changed", (1,)), ("changed", (2,)), ("over",)])

    def test_rising_from_0_at_each_place(self):
        task = Told((row((1, 1), (1, 2), (1, 3)), row(name=1, bound=3), row(name=2, bound=4), row(name=3, bound=5)))
        self.assertEqual(Local(task, (2, 5)).step(), ("changed", (0, 5)))
        self.assertEqual(Local(task, (7, 5)).step(), ("changed", (0, 5)))

    def test_up_to_7(self):
        # Of eight nexts only the last is done, or the one ahead of it.
        for number in (6, 7):
            rows = [row(name=at, bound=1, done=False) for at in range(1, 9)]
            rows[number] = row(done=True, name=number + 1)
            task = Told((row(*[(1, at) for at in range(1, 9)], bound=1), *rows))
            local = Local(task, (0,))
            self.assertEqual([local.step(), local.step()], [("changed", (number,)), ("over",)])

    def test_fewer_steps_are_better_where_all_else_is_like(self):
        # By 1 it is done after two steps, by 2 after one, both for 3.
        task = Told((row((2, 1), (3, 2)), row((1, 2), name=1), row(done=True, name=2)))
        self.assertEqual(Local(task, (0, 0)).step(), ("changed", (1, 0)))
        # 1 after one step, 2 after none; both have bound 4.
        task = Told((row((1, 1), (1, 0), bound=4), row(name=1, bound=4)))
        self.assertEqual(Local(task, (0,)).step(), ("changed", (1,)))

    def test_over_ahead_of_any_step(self):
        local = Local(MAZE, (1, 2, 0))
        self.assertEqual(face(local), ((1, 2, 0), (1, 2, 0), True))
        self.assertEqual((local.step(), local.go(9)), (("over",), 0))
        self.assertIs(Local(Task(), (3,)).is_over(), True)
        self.assertEqual(Local(Net(0, ((),), (0,)), (3,)).answer(), ())

    def test_what_is_like_is_not_better(self):
        self.assertIs(Local(Told((row((1, 1), (1, 1)), row(done=True, name=1))), (0,)).is_over(), True)

    def test_the_answer_or_none(self):
        self.assertIsNone(Local(MAZE, (0,)).answer())
        self.assertIsNone(Local(MAZE, (0, 1)).answer())
        self.assertIsNone(Local(MAZE, (1, 0)).answer())
        self.assertEqual(Local(MAZE, (6, 4, 3, 2)).answer(), (0, 0))

    def test_going_on(self):
        task = Orders(((3, 2), (2, 5), (4, 4), (1, 1)))
        one, other = Local(task, (0, 0, 0, 0)), Local(task, (0, 0, 0, 0))
        many = 0
        while other.step() != ("over",):
            many += 1
        self.assertEqual([one.go(0), one.go(1)], [0, 1])
        self.assertEqual([one.go(1000), one.go(1000)], [many - 1, 0])
        self.assertEqual(face(one), face(other))
        refuses_numbers(self, one, face)
        refuses_numbers(self, Local(task, (0, 1, 2)), face)

    def test_against_going_otherwise(self):
        tasks = [*[kept_told(seed) for seed in range(25)], *[given_task(seed) for seed in range(25)]]
        for seed, task in enumerate(tasks):
            numbers = tuple((seed * at + at) % 8 for at in range(1, 2 + seed % 5))
            local = Local(task, numbers)
            while True:
                better = [one for one in all_changes(numbers) if walked(task, one)[1] < walked(task, numbers)[1]]
                self.assertIs(local.is_over(), not better)
                steps = walked(task, numbers)[0]
                self.assertEqual(local.answer(), steps if is_answer(task, steps) else None)
                if not better:
                    self.assertEqual(local.step(), ("over",))
                    break
                numbers = better[0]
                self.assertEqual(local.step(), ("changed", numbers))
                self.assertEqual(local.numbers(), numbers)


if __name__ == "__main__":
    unittest.main()
