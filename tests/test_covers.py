"""Covers: their doors, and what is refused."""

import itertools
import unittest

from seekways.covers import Cover
from seekways.tasks import Task
from tests.helpers import ODD, place_of

SMALL = Cover(4, ((1, 2), (0,), (0, 1), (0, 1), (2,)))


class Doors(unittest.TestCase):
    def test_is_a_task(self):
        self.assertIsInstance(SMALL, Task)

    def test_start(self):
        for many in (1, 4, 10):
            self.assertEqual(Cover(many, ((0,),)).start(), (1,) * many)

    def test_has(self):
        for thing in itertools.product(range(-1, 3), repeat=4):
            self.assertIs(SMALL.has(thing), all(left in (0, 1) for left in thing), thing)
        for thing in (*ODD, 0, 1, (1, 1, 1), (1,) * 5, [1, 1, 1, 1], (1, 1, 1, True), (False, 0, 0, 0)):
            self.assertIs(SMALL.has(thing), False, thing)

    def test_nexts(self):
        self.assertEqual(SMALL.nexts((1, 1, 1, 1)), ((1, (0, 1, 1, 1)), (1, (0, 0, 1, 1)), (1, (0, 0, 1, 1))))
        self.assertEqual(SMALL.nexts((0, 1, 1, 0)), ((1, (0, 0, 0, 0)), (1, (0, 0, 1, 0)), (1, (0, 0, 1, 0))))
        self.assertEqual(SMALL.nexts((0, 0, 1, 1)), ((1, (0, 0, 0, 1)), (1, (0, 0, 0, 1))))
        self.assertEqual(SMALL.nexts((1, 0, 0, 0)), ((1, (0, 0, 0, 0)),) * 3)
        self.assertEqual(SMALL.nexts((0, 0, 0, 1)), ())

    def test_done(self):
        for thing in itertools.product((0, 1), repeat=4):
            self.assertIs(SMALL.is_done(thing), thing == (0, 0, 0, 0), thing)

    def test_bound(self):
        for many, longest in itertools.product(range(1, 11), range(1, 11)):
            if longest <= many:
                cover = Cover(many, ((0,), tuple(range(longest))))
                for left in range(many + 1):
                    standing = (1,) * left + (0,) * (many - left)
                    rounded = left // longest + (1 if left % longest else 0)
                    self.assertEqual(cover.bound(standing), rounded)

    def test_cut(self):
        for thing in itertools.product((0, 1), repeat=4):
            self.assertIs(SMALL.cut(thing), thing[3] == 1, thing)
        self.assertIs(Cover(2, ((0,), (1,))).cut((1, 1)), False)
        self.assertIs(Cover(2, ((1,),)).cut((1, 1)), True)
        self.assertIs(Cover(2, ((1,),)).cut((0, 1)), False)

    def test_name_turnings_ends(self):
        self.assertEqual(SMALL.named((1, 0, 1, 0)), (1, 0, 1, 0))
        self.assertEqual(SMALL.turnings(), 0)
        self.assertIsNone(SMALL.ends())
        self.assertEqual(SMALL.ahead((1, 0, 1, 0)), ())


class Refused(unittest.TestCase):
    def place(self, many=2, rows=((0, 1),)):
        return place_of(self, Cover, many, rows)

    def test_many(self):
        for many in (*ODD, 0, -1, 11, 100):
            self.assertEqual(self.place(many=many), ("many",), many)

    def test_rows(self):
        wrongs = [None, True, 0, "", [], {}, (), [(0,)], ((0,),) * 9, ([0],), ((0,), None), ((0,), ()), ((),), (0, 1),
                  ((1, 0),), ((0, 0),), ((-1, 0),), ((0, 2),), ((2,),), ((True,),), ((0, True),), ((False, 1),),
                  (("0",),), (((0,),),), ((None,),), ((0, 1, 2),)]
        for rows in wrongs:
            self.assertEqual(self.place(rows=rows), ("rows",), rows)

    def test_made(self):
        for many, rows in ((1, ((0,),)), (1, ((0,),) * 8), (10, (tuple(range(10)),) * 8), (10, ((9,),))):
            self.assertEqual(Cover(many, rows).start(), (1,) * many)

    def test_many_goes_ahead_of_rows(self):
        self.assertEqual(self.place(many=0, rows=5), ("many",))
        self.assertEqual(self.place(many=True, rows=((0, 7),)), ("many",))
        self.assertEqual(self.place(many=11, rows=()), ("many",))


if __name__ == "__main__":
    unittest.main()
