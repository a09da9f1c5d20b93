"""Rests: the task from another start, all other doors its own."""

import unittest

from seekways.rests import Rest
from seekways.tasks import Task
from seekways.told import Told
from tests.helpers import ODD, all_from_start, place_of, row
from tests.samples import ENDED, GUESSED, NET, TOLD, samples


class Doors(unittest.TestCase):
    def check(self, rest, task, standings):
        """Every door but start tells what the task's tells."""
        self.assertEqual(rest.turnings(), task.turnings())
        self.assertEqual(rest.ends(), task.ends())
        for standing in standings:
            self.assertIs(rest.has(standing), True)
            self.assertEqual(rest.nexts(standing), task.nexts(standing))
            self.assertIs(rest.is_done(standing), task.is_done(standing))
            self.assertEqual(rest.named(standing), task.named(standing))
            self.assertEqual(rest.bound(standing), task.bound(standing))
            self.assertIs(rest.cut(standing), task.cut(standing))
            self.assertEqual(rest.ahead(standing), task.ahead(standing))
            for number in range(task.turnings()):
                self.assertEqual(rest.turned(number, standing), task.turned(number, standing))

    def test_of_each_task_at_each_standing(self):
        for task in samples():
            standings = all_from_start(task)
            start = task.start()
            for standing in standings:
                rest = Rest(task, standing)
                self.assertIsInstance(rest, Task)
                self.assertEqual(rest.start(), standing)
                self.check(rest, task, standings)
                self.assertEqual(task.start(), start)

    def test_from_a_standing_where_the_start_does_not_lead(self):
        self.assertEqual(Rest(NET, (4,)).start(), (4,))
        self.assertEqual(Rest(NET, (4,)).nexts((4,)), ((1, (3,)),))

    def test_doors_that_are_not_as_those_of_a_plain_task(self):
        rest = Rest(ENDED, (2,))
        self.assertEqual(rest.ends(), ((3,),))
        self.assertEqual(rest.ahead((3,)), ((7, (0,)), (1, (2,))))
        self.assertEqual(Rest(TOLD, (1,)).named((3,)), (7,))
        self.assertEqual(Rest(TOLD, (1,)).turned(0, (1,)), (2,))
        self.assertEqual(Rest(GUESSED, (0,)).turnings(), 2)
        self.assertEqual(Rest(GUESSED, (0,)).turned(1, (0,)), (1,))

    def test_a_rest_of_a_rest(self):
        for task in samples():
            standings = all_from_start(task)
            rest = Rest(Rest(task, standings[-1]), standings[0])
            self.assertEqual(rest.start(), standings[0])
            self.check(rest, task, standings)
            last = Rest(Rest(task, standings[0]), standings[-1])
            self.assertEqual(last.start(), standings[-1])
            self.check(last, task, standings)

    def test_has_nothing_that_the_task_has_not(self):
        rest = Rest(TOLD, (1,))
        for thing in (*ODD, 0, (6,), (0, 0), [1]):
            self.assertIs(rest.has(thing), False, thing)


class Refused(unittest.TestCase):
    def test_what_is_no_standing(self):
        for task in samples():
            for thing in (*ODD, 0, 7, (999,), (0,) * 12, [0], "start"):
                if not task.has(thing):
                    self.assertEqual(place_of(self, Rest, task, thing), ("standing",), thing)

    def test_by_the_task_that_it_is_of(self):
        for thing in ((2,), (0, 0), (True,), (False,), [0], 0):
            self.assertEqual(place_of(self, Rest, Told((row(), row())), thing), ("standing",), thing)
        self.assertEqual(place_of(self, Rest, Rest(TOLD, (1,)), (6,)), ("standing",))
        self.assertEqual(place_of(self, Rest, Task(), (1,)), ("standing",))


if __name__ == "__main__":
    unittest.main()
