"""Answers: what is one, what it costs, its way; sums and the order of worths."""

import itertools
import unittest

from seekways.answers import at_most, cost_of, is_answer, plus, way_of
from seekways.boards import Board
from seekways.nets import Net
from seekways.orders import Orders
from seekways.rests import Rest
from seekways.tasks import Task
from seekways.told import Told
from seekways.wholes import NEVER
from tests.helpers import ODD, Watched, row
from tests.samples import NET, TOLD, samples

DONE = Told((row((1, 0), (1, 1), done=True), row(done=True)))


class Chain(Task):
    """Standings one behind the other, the last of so many done; each may be left out, too."""

    def __init__(self, many):
        self.many = many

    def has(self, thing):
        return isinstance(thing, tuple) and len(thing) == 1 and 0 <= thing[0] < self.many

    def nexts(self, standing):
        at = standing[0]
        return ((1, (at + 1,)), (3, (min(at + 2, self.many - 1),)))

    def is_done(self, standing):
        return standing[0] == self.many - 1


def all_steps(task, most):
    """All tuples of up to so many steps, gone or not, and whether each is an answer, by hand."""
    for length in range(most + 1):
        for steps in itertools.product(range(-1, 4), repeat=length):
            way = [task.start()]
            for step in steps:
                nexts = [] if task.is_done(way[-1]) else task.nexts(way[-1])
                if not 0 <= step < len(nexts):
                    break
                way.append(nexts[step][1])
            gone = len(way) == length + 1 and len(set(way)) == len(way)
            yield steps, gone and [task.is_done(one) for one in way] == [False] * length + [True]


class IsAnswer(unittest.TestCase):
    def test_of_all_short_tuples_of_steps(self):
        for task in samples():
            for steps, told in all_steps(task, 4):
                self.assertIs(is_answer(Watched(task), steps), told, steps)

    def test_a_step_otherwise_left_out_twice_or_more(self):
        board = Board((0, 0, 0), 3, ((0, 1, 2),))
        self.assertIs(is_answer(board, (0, 0, 0)), True)
        self.assertIs(is_answer(board, (2, 1, 0)), True)
        for steps in ((0, 0, 1), (3, 0, 0), (-1, 0, 0), (0, 2, 0), (0, 0), (0,), (), (0, 0, 0, 0), (2, 1, 1)):
            self.assertIs(is_answer(board, steps), False, steps)

    def test_truths_are_no_steps(self):
        self.assertIs(is_answer(TOLD, (1, 1)), True)
        self.assertIs(is_answer(TOLD, (0, 0)), True)
        for steps in ((True, 1), (1, True), (False, 0), (0, False)):
            self.assertIs(is_answer(TOLD, steps), False, steps)

    def test_a_standing_that_comes_twice(self):
        self.assertIs(is_answer(NET, (1,)), True)
        self.assertIs(is_answer(NET, (0, 0, 1)), False)
        self.assertIs(is_answer(NET, (0, 1, 0, 1, 1)), False)
        self.assertIs(is_answer(NET, (0, 1, 1)), True)
        self.assertIs(is_answer(Told((row((0, 0), (1, 1)), row(done=True))), (0, 1)), False)

    def test_a_done_standing_on_the_way(self):
        task = Told((row((1, 1)), row((1, 2), done=True), row(done=True)))
        self.assertIs(is_answer(task, (0,)), True)
        self.assertIs(is_answer(task, (0, 0)), False)
        self.assertIs(is_answer(DONE, (1,)), False)

    def test_nothing_where_the_start_is_done_and_where_not(self):
        self.assertIs(is_answer(DONE, ()), True)
        self.assertIs(is_answer(TOLD, ()), False)
        self.assertIs(is_answer(Rest(TOLD, (3,)), ()), True)
        self.assertIs(is_answer(Task(), ()), False)

    def test_60_steps_and_61(self):
        self.assertIs(is_answer(Chain(61), (0,) * 60), True)
        self.assertIs(is_answer(Chain(62), (0,) * 61), False)
        self.assertIs(is_answer(Chain(62), (0,) * 30 + (1,) + (0,) * 29), True)
        self.assertIs(is_answer(Chain(60), (0,) * 60), False)
        self.assertIs(is_answer(Chain(61), (0,) * 1000), False)

    def test_anything_else(self):
        for task in (TOLD, NET, DONE, Board((0,), 1, ())):
            for thing in (*ODD, 0, 1, [0, 0], [1], [(0,)], "00", {0: 0}, ((0,), 0), (0, [0]), (0, None), (0, "0"), (10 ** 9,)):
                if thing != () and thing != (0,):
                    self.assertIs(is_answer(task, thing), False, thing)


class CostAndWay(unittest.TestCase):
    def test_cost(self):
        self.assertEqual(cost_of(TOLD, (0, 0)), 3)
        self.assertEqual(cost_of(NET, (1,)), 9)
        self.assertEqual(cost_of(NET, (0, 1, 1)), 6)
        self.assertEqual(cost_of(DONE, ()), 0)
        self.assertEqual(cost_of(Orders(((3, 2), (2, 5), (4, 4))), (0, 0, 0)), 6)
        self.assertEqual(cost_of(Net(0, (((1000, 1),), ((1000, 2),), ()), (2,)), (0, 0)), 2000)

    def test_way(self):
        self.assertEqual(way_of(TOLD, ()), ((0,),))
        self.assertEqual(way_of(TOLD, (0, 0)), ((0,), (1,), (3,)))
        self.assertEqual(way_of(TOLD, (2, 2)), ((0,), (4,), (5,)))
        self.assertEqual(way_of(NET, (0, 1, 1)), ((0,), (1,), (2,), (3,)))
        self.assertEqual(way_of(Rest(NET, (2,)), (0, 0)), ((2,), (1,), (0,)))
        self.assertEqual(way_of(Board((0, 0), 2, ((0, 1),)), (1, 0)), ((0, 0), (2, 0), (2, 1)))

    def test_no_nexts_of_the_last_are_asked(self):
        self.assertEqual(cost_of(Watched(TOLD), (1, 1)), 3)
        self.assertEqual(way_of(Watched(TOLD), (1, 1)), ((0,), (2,), (3,)))


class Worths(unittest.TestCase):
    GREAT = 10 ** 30

    def test_plus(self):
        self.assertEqual(plus(0, 0), 0)
        self.assertEqual(plus(3, 4), 7)
        self.assertEqual(plus(1000, self.GREAT), self.GREAT + 1000)
        self.assertEqual(plus(0, self.GREAT), self.GREAT)
        for worth in (0, 1, 1000, self.GREAT, NEVER):
            self.assertEqual(plus(worth, NEVER), NEVER)
            self.assertEqual(plus(NEVER, worth), NEVER)

    def test_at_most(self):
        rising = (0, 1, 2, 1000, self.GREAT, self.GREAT + 1, NEVER)
        for (at, worth), (other_at, other) in itertools.product(enumerate(rising), repeat=2):
            self.assertIs(at_most(worth, other), at <= other_at, (worth, other))


if __name__ == "__main__":
    unittest.main()
