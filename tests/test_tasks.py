"""The task by itself."""

import unittest

from seekways.tasks import Task
from seekways.wholes import is_whole
from tests.helpers import ODD


class Tasks(unittest.TestCase):
    def setUp(self):
        self.task = Task()

    def test_start(self):
        self.assertEqual(self.task.start(), (0,))

    def test_has_its_start_alone(self):
        self.assertIs(self.task.has((0,)), True)
        for thing in (*ODD, 0, 1, (1,), (0, 0), (999,), [0], (0,) * 12):
            self.assertIs(self.task.has(thing), False, thing)

    def test_nothing_next_and_not_done(self):
        self.assertEqual(self.task.nexts((0,)), ())
        self.assertIs(self.task.is_done((0,)), False)

    def test_name_bound_cut(self):
        self.assertEqual(self.task.named((0,)), (0,))
        self.assertEqual(self.task.bound((0,)), 0)
        self.assertTrue(is_whole(self.task.bound((0,))))
        self.assertIs(self.task.cut((0,)), False)

    def test_no_turnings_ends_or_ahead(self):
        self.assertEqual(self.task.turnings(), 0)
        self.assertIs(self.task.ends(), None)
        self.assertEqual(self.task.ahead((0,)), ())

    def test_a_task_that_puts_some_doors_otherwise_keeps_the_others(self):
        class Other(Task):
            def start(self):
                return (4, 2)

        self.assertEqual(Other().start(), (4, 2))
        self.assertEqual(Other().named((4, 2)), (4, 2))
        self.assertEqual(Other().turned(0, (4, 2)), (4, 2))
        self.assertEqual(Other().nexts((4, 2)), ())


if __name__ == "__main__":
    unittest.main()
