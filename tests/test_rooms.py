"""Rooms: their doors, and what is refused."""

import itertools
import unittest

from seekways.rooms import Rooms
from seekways.tasks import Task
from tests.helpers import ODD, all_from_start, place_of

SMALL = Rooms((3, 2, 4), 2, 5)
LARGE = Rooms((99,) * 8, 4, 99)
ONE = Rooms((1,), 1, 1)


def rounded_up(number, by):
    return max(0, -(-number // by))


class Doors(unittest.TestCase):
    def test_is_a_task(self):
        self.assertIsInstance(SMALL, Task)

    def test_start(self):
        self.assertEqual(SMALL.start(), (0, 0, 0))
        self.assertEqual(ONE.start(), (0, 0))
        self.assertEqual(LARGE.start(), (0, 0, 0, 0, 0))

    def test_has(self):
        for thing in itertools.product(range(-1, 8), repeat=3):
            told = 0 <= thing[0] <= 3 and all(0 <= held <= 5 for held in thing[1:])
            self.assertIs(SMALL.has(thing), told, thing)
        odd = (0, (0, 0), (0, 0, 0, 0), [0, 0, 0], (0, 0, True), (False, 0, 0), (True, 0, 0), (0, None, 0), (0, 0, "0"))
        for thing in (*ODD, *odd):
            self.assertIs(SMALL.has(thing), False, thing)
        self.assertIs(LARGE.has((8, 99, 99, 99, 99)), True)
        for thing in ((9, 0, 0, 0, 0), (8, 100, 0, 0, 0), (8, 0, 0, 0, 100)):
            self.assertIs(LARGE.has(thing), False, thing)

    def test_nexts(self):
        self.assertEqual(SMALL.nexts((0, 0, 0)), ((1, (1, 3, 0)), (1, (1, 0, 3))))
        self.assertEqual(SMALL.nexts((1, 3, 0)), ((0, (2, 5, 0)), (1, (2, 3, 2))))
        self.assertEqual(SMALL.nexts((1, 0, 3)), ((1, (2, 2, 3)), (0, (2, 0, 5))))
        self.assertEqual(SMALL.nexts((2, 5, 0)), ((1, (3, 5, 4)),))
        self.assertEqual(SMALL.nexts((2, 3, 2)), ())

    def test_nexts_where_the_start_does_not_lead(self):
        self.assertEqual(SMALL.nexts((2, 0, 0)), ((1, (3, 4, 0)), (1, (3, 0, 4))))
        self.assertEqual(SMALL.nexts((1, 5, 4)), ())
        self.assertEqual(SMALL.nexts((0, 1, 1)), ((0, (1, 4, 1)), (0, (1, 1, 4))))
        self.assertEqual(SMALL.nexts((2, 1, 2)), ((0, (3, 5, 2)),))

    def test_nexts_go_into_each_of_many_rooms(self):
        self.assertEqual(LARGE.nexts((0, 0, 0, 0, 0)), (
            (1, (1, 99, 0, 0, 0)), (1, (1, 0, 99, 0, 0)), (1, (1, 0, 0, 99, 0)), (1, (1, 0, 0, 0, 99))))
        self.assertEqual(LARGE.nexts((5, 99, 0, 1, 99)), ((1, (6, 99, 99, 1, 99)),))
        self.assertEqual(ONE.nexts((0, 0)), ((1, (1, 1)),))
        self.assertEqual(ONE.nexts((0, 1)), ())

    def test_done(self):
        for thing in itertools.product(range(4), range(6), range(6)):
            self.assertIs(SMALL.is_done(thing), thing[0] == 3, thing)

    def test_name_has_the_rooms_sorted(self):
        self.assertEqual(SMALL.named((1, 3, 0)), (1, 0, 3))
        self.assertEqual(SMALL.named((1, 0, 3)), (1, 0, 3))
        self.assertEqual(SMALL.named((3, 2, 2)), (3, 2, 2))
        self.assertEqual(Rooms((9,) * 8, 4, 20).named((8, 12, 3, 20, 1)), (8, 1, 3, 12, 20))

    def test_bound_at_the_start(self):
        self.assertEqual(SMALL.bound((0, 0, 0)), 2)
        self.assertEqual(LARGE.bound(LARGE.start()), 8)
        self.assertEqual(ONE.bound((0, 0)), 1)
        self.assertEqual(Rooms((5, 5), 2, 5).bound((0, 0, 0)), 2)
        self.assertEqual(Rooms((5, 6), 2, 5).bound((0, 0, 0)), 3)
        self.assertEqual(Rooms((99,) * 8, 1, 1).bound((0, 0)), 792)

    def test_bound_counts_what_is_free_where_something_is_held(self):
        self.assertEqual(SMALL.bound((1, 3, 0)), 1)
        self.assertEqual(SMALL.bound((2, 3, 0)), 1)
        self.assertEqual(SMALL.bound((2, 1, 0)), 0)
        self.assertEqual(SMALL.bound((2, 1, 1)), 0)
        self.assertEqual(SMALL.bound((3, 1, 1)), 0)
        self.assertEqual(SMALL.bound((0, 5, 5)), 2)

    def test_bound_rounded_up_and_never_below_0(self):
        for thing in itertools.product(range(4), range(6), range(6)):
            left = sum((3, 2, 4)[thing[0]:])
            free = sum(5 - held for held in thing[1:] if held)
            self.assertEqual(SMALL.bound(thing), rounded_up(left - free, 5), thing)

    def test_cut(self):
        self.assertIs(SMALL.cut((0, 0, 0)), False)
        self.assertIs(SMALL.cut((1, 3, 0)), False)
        self.assertIs(SMALL.cut((2, 3, 2)), True)
        self.assertIs(SMALL.cut((2, 5, 1)), False)
        self.assertIs(SMALL.cut((2, 5, 2)), True)
        self.assertIs(SMALL.cut((3, 5, 5)), False)

    def test_cut_by_a_thing_that_is_not_the_next(self):
        self.assertIs(SMALL.cut((0, 2, 2)), True)
        self.assertIs(SMALL.cut((1, 2, 3)), True)
        self.assertEqual(SMALL.nexts((1, 2, 3)), ((0, (2, 4, 3)), (0, (2, 2, 5))))
        self.assertIs(SMALL.cut((1, 1, 5)), False)

    def test_sizes_greater_than_the_space(self):
        task = Rooms((1, 99), 2, 5)
        self.assertIs(task.cut(task.start()), True)
        self.assertEqual(task.bound(task.start()), 20)
        self.assertEqual(task.nexts(task.start()), ((1, (1, 1, 0)), (1, (1, 0, 1))))
        self.assertEqual(task.nexts((1, 1, 0)), ())
        self.assertEqual(task.bound((1, 1, 0)), 19)
        self.assertIs(task.cut((2, 1, 0)), False)

    def test_what_comes_is_a_standing(self):
        for task in (SMALL, ONE, Rooms((3, 1, 2, 2), 3, 4)):
            for standing in all_from_start(task):
                self.assertIs(task.has(standing), True, standing)

    def test_no_turnings_no_ends(self):
        self.assertEqual(SMALL.turnings(), 0)
        self.assertIsNone(SMALL.ends())
        self.assertEqual(SMALL.ahead((1, 3, 0)), ())


class Refused(unittest.TestCase):
    def place(self, sizes=(1, 2), rooms=2, space=3):
        return place_of(self, Rooms, sizes, rooms, space)

    def test_sizes(self):
        wrongs = [None, True, 5, "", "12", [], [1], {}, {1: 1}, (), (1,) * 9, (0,), (100,), (1, 0), (1, 100), (1, -1),
                  (True,), (1, True), (1, False), (None,), ("1",), ((1,),), ([1],)]
        for sizes in wrongs:
            self.assertEqual(self.place(sizes=sizes), ("sizes",), sizes)
        for sizes in ((1,), (99,), (1,) * 8, (99,) * 8):
            self.assertEqual(Rooms(sizes, 1, 1).sizes, sizes)

    def test_rooms(self):
        for rooms in (*ODD, 0, -1, 5, 100, (2,)):
            self.assertEqual(self.place(rooms=rooms), ("rooms",), rooms)
        for rooms in (1, 2, 3, 4):
            self.assertEqual(len(Rooms((1,), rooms, 1).start()), 1 + rooms)

    def test_space(self):
        for space in (*ODD, 0, -1, 100, 1000, (3,)):
            self.assertEqual(self.place(space=space), ("space",), space)
        for space in (1, 2, 98, 99):
            self.assertIs(Rooms((1,), 1, space).has((0, space)), True)
            self.assertIs(Rooms((1,), 1, space).has((0, space + 1)), False)

    def test_the_first_wrong_thing_is_told(self):
        self.assertEqual(self.place(sizes=(), rooms=0, space=0), ("sizes",))
        self.assertEqual(self.place(sizes=(1, True), space=100), ("sizes",))
        self.assertEqual(self.place(sizes=(100,), rooms=True), ("sizes",))
        self.assertEqual(self.place(rooms=5, space=0), ("rooms",))
        self.assertEqual(self.place(rooms=None, space=True), ("rooms",))


if __name__ == "__main__":
    unittest.main()
