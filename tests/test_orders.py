"""Orders: their doors, and what is refused."""

import itertools
import unittest

from seekways.orders import Orders
from seekways.tasks import Task
from tests.helpers import ODD, place_of

JOBS = ((3, 2), (2, 5), (4, 4))
SMALL = Orders(JOBS)
LARGE = Orders(((20, 0),) * 6)


class Doors(unittest.TestCase):
    def test_is_a_task(self):
        self.assertIsInstance(SMALL, Task)

    def test_start(self):
        for many in (1, 3, 6):
            self.assertEqual(Orders(((1, 0),) * many).start(), (0,) * many)

    def test_has(self):
        for thing in itertools.product(range(-1, 3), repeat=3):
            self.assertIs(SMALL.has(thing), all(placed in (0, 1) for placed in thing), thing)
        for thing in (*ODD, 0, (0, 0), (0,) * 4, [0, 0, 0], (0, 0, True), (False, 0, 0), (0, None, 1), (0, 0, "1")):
            self.assertIs(SMALL.has(thing), False, thing)

    def test_nexts(self):
        self.assertEqual(SMALL.nexts((0, 0, 0)), ((1, (1, 0, 0)), (0, (0, 1, 0)), (0, (0, 0, 1))))
        self.assertEqual(SMALL.nexts((1, 0, 0)), ((0, (1, 1, 0)), (3, (1, 0, 1))))
        self.assertEqual(SMALL.nexts((0, 1, 0)), ((3, (1, 1, 0)), (2, (0, 1, 1))))
        self.assertEqual(SMALL.nexts((0, 0, 1)), ((5, (1, 0, 1)), (1, (0, 1, 1))))
        self.assertEqual(SMALL.nexts((1, 0, 1)), ((4, (1, 1, 1)),))
        self.assertEqual(SMALL.nexts((1, 1, 0)), ((5, (1, 1, 1)),))

    def test_due_at_once_and_late(self):
        self.assertEqual(Orders(((20, 0),)).nexts((0,)), ((20, (1,)),))
        self.assertEqual(Orders(((20, 20),)).nexts((0,)), ((0, (1,)),))
        self.assertEqual(Orders(((20, 19),)).nexts((0,)), ((1, (1,)),))
        self.assertEqual(Orders(((1, 120),)).nexts((0,)), ((0, (1,)),))
        self.assertEqual(LARGE.nexts((1, 1, 1, 1, 1, 0)), ((120, (1,) * 6),))
        self.assertEqual(Orders(((20, 120),) * 6).nexts((1, 1, 1, 1, 1, 0)), ((0, (1,) * 6),))

    def test_done(self):
        for thing in itertools.product((0, 1), repeat=3):
            self.assertIs(SMALL.is_done(thing), thing == (1, 1, 1), thing)

    def test_bound(self):
        for thing in itertools.product((0, 1), repeat=3):
            done = sum(length for (length, due), placed in zip(JOBS, thing) if placed)
            late = [max(0, done + length - due) for (length, due), placed in zip(JOBS, thing) if not placed]
            self.assertEqual(SMALL.bound(thing), sum(late), thing)
        self.assertEqual(SMALL.bound((0, 0, 0)), 1)
        self.assertEqual(SMALL.bound((1, 0, 0)), 3)
        self.assertEqual(LARGE.bound((0,) * 6), 120)
        self.assertEqual(LARGE.bound((1, 1, 1, 0, 0, 0)), 240)

    def test_name_cut_turnings_ends(self):
        for thing in itertools.product((0, 1), repeat=3):
            self.assertEqual(SMALL.named(thing), thing)
            self.assertIs(SMALL.cut(thing), False)
            self.assertEqual(SMALL.ahead(thing), ())
        self.assertEqual(SMALL.turnings(), 0)
        self.assertIsNone(SMALL.ends())


class Refused(unittest.TestCase):
    def test_jobs(self):
        wrongs = [None, True, 5, "", "ab", [], {}, (), [(1, 1)], ((1, 1),) * 7, (None,), ((1, 1), None), (1, 1),
                  ([1, 1],), ((),), ((1,),), ((1, 1, 1),), ((0, 1),), ((21, 1),), ((-1, 1),), ((1, -1),), ((1, 121),),
                  ((True, 1),), ((1, True),), ((1, False),), ((None, 1),), ((1, None),), (("1", 1),), ((1, (1,)),),
                  ((1, 1), (1, 1000)), ({1: 1},)]
        for jobs in wrongs:
            self.assertEqual(place_of(self, Orders, jobs), ("jobs",), jobs)

    def test_made(self):
        for jobs in (((1, 0),), ((20, 120),), ((1, 120),) * 6, ((20, 0),) * 6):
            self.assertEqual(Orders(jobs).start(), (0,) * len(jobs))


if __name__ == "__main__":
    unittest.main()
