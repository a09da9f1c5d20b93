"""Told copies of tasks."""

import unittest

from seekways.boards import Board
from seekways.covers import Cover
from seekways.errors import SeekError, TooWide
from seekways.nets import Net
from seekways.orders import Orders
from seekways.rests import Rest, told_of
from seekways.rooms import Rooms
from seekways.tasks import Task
from seekways.told import Told
from tests.helpers import Watched, all_from_start, row
from tests.samples import ENDED, NET, TOLD, samples


def chain(many):
    """A net's kind of task with so many standings, one behind the other."""
    class Chain(Task):
        def nexts(self, standing):
            return ((1, (standing[0] + 1,)),) if standing[0] + 1 < many else ()
    return Chain()


class Copies(unittest.TestCase):
    def test_of_a_board(self):
        told = told_of(Board((0, 0, 2), 2, ((0, 1), (1, 2)), turns=((2, 1),)))
        self.assertIsInstance(told, Told)
        self.assertEqual(told.table, (
            row((1, 1), (1, 2), name=0, bound=2),
            row(name=1, bound=1, cut=True),
            row((1, 3), name=2, bound=1),
            row(done=True, name=3),
        ))
        self.assertEqual((told.maps, told.targets, told.heads), ((), None, None))

    def test_of_a_cover(self):
        self.assertEqual(told_of(Cover(2, ((0,), (0, 1), (1,)))).table, (
            row((1, 1), (1, 2), name=0, bound=1),
            row((1, 2), (1, 2), name=1, bound=1),
            row(done=True, name=2),
        ))

    def test_of_rooms_whose_names_come_again(self):
        self.assertEqual(told_of(Rooms((2, 3), 2, 3)).table, (
            row((1, 1), (1, 2), name=0, bound=2),
            row((1, 3), name=1, bound=1),
            row((1, 4), name=1, bound=1),
            row(done=True, name=3),
            row(done=True, name=3),
        ))

    def test_of_orders(self):
        self.assertEqual(told_of(Orders(((3, 2), (2, 5)))).table, (
            row((1, 1), (0, 2), name=0, bound=1),
            row((0, 3), name=1),
            row((3, 3), name=2, bound=3),
            row(done=True, name=3),
        ))

    def test_of_a_net_the_rows_as_they_come(self):
        told = told_of(Net(2, (((1, 2),), ((4, 0), (0, 1)), ((5, 3), (6, 1)), ((7, 0),)), (3,), guesses=(1, 2, 3, 0)))
        self.assertEqual(told.table, (
            row((5, 1), (6, 2), name=0, bound=3),
            row(done=True, name=1),
            row((4, 3), (0, 2), name=2, bound=2),
            row((1, 0), name=3, bound=1),
        ))
        self.assertIsNone(told.ends())

    def test_of_told_tasks(self):
        told = told_of(TOLD)
        self.assertEqual(told.table, (
            row((2, 1), (2, 2), (1, 3), name=0, bound=3),
            row((1, 4), (5, 0), name=1, bound=1),
            row((5, 0), (1, 4), name=2, bound=1),
            row((0, 3), (1, 0), (3, 5), name=3, bound=2),
            row(done=True, name=4),
            row(cut=True, name=5),
        ))
        self.assertEqual(told.turnings(), 0)
        self.assertEqual(told_of(ENDED).table[2], row(done=True, name=2))
        self.assertIsNone(told_of(ENDED).ends())

    def test_names_are_of_the_first_row_of_that_name(self):
        told = told_of(Told((row((1, 1), (1, 2), name=9), row((1, 3), name=5), row(name=9), row(name=5, cut=True))))
        self.assertEqual([told.named((at,)) for at in range(4)], [(0,), (1,), (0,), (1,)])

    def test_of_rests(self):
        self.assertEqual(told_of(Rest(NET, (2,))).table, (
            row((0, 1), (1, 2), name=0),
            row((0, 3), (3, 0), name=1),
            row(done=True, name=2),
            row((2, 1), (9, 2), name=3),
        ))
        self.assertEqual(told_of(Rest(NET, (3,))).table, (row(done=True),))

    def test_of_one_standing(self):
        self.assertEqual(told_of(Task()), Told((row(),)))
        self.assertEqual(told_of(Told((row((1, 1), done=True), row()))), Told((row(done=True),)))

    def test_nexts_of_a_done_one_are_not_asked(self):
        for task in samples():
            self.assertEqual(told_of(Watched(task)), told_of(task))

    def test_row_i_is_the_ith_standing_that_comes(self):
        for task in samples():
            standings = all_from_start(task)
            told = told_of(task)
            self.assertEqual(len(told), len(standings))
            for number, standing in enumerate(standings):
                here = (number,)
                self.assertIs(told.is_done(here), task.is_done(standing))
                self.assertIs(told.cut(here), task.cut(standing))
                self.assertEqual(told.bound(here), task.bound(standing))
                names = [task.named(one) for one in standings]
                self.assertEqual(told.named(here), (names.index(task.named(standing)),))
                nexts = () if task.is_done(standing) else task.nexts(standing)
                self.assertEqual(told.nexts(here), tuple((cost, (standings.index(to),)) for cost, to in nexts))


class TooMany(unittest.TestCase):
    def refused(self, task):
        with self.assertRaises(SeekError) as caught:
            told_of(task)
        self.assertIsInstance(caught.exception, TooWide)
        self.assertEqual(caught.exception.most, 24)

    def test_at_24_and_25(self):
        self.assertEqual(len(told_of(chain(24))), 24)
        self.refused(chain(25))
        self.refused(chain(26))

    def test_of_given_tasks(self):
        self.refused(Board((0,) * 9, 4, ()))
        self.refused(Rooms((1,) * 8, 4, 99))
        self.refused(Orders(((1, 1),) * 5))
        self.assertEqual(len(told_of(Orders(((1, 1),) * 4))), 16)

    def test_the_25th_among_the_nexts_of_one(self):
        rows = [row((1, 1), (1, 2), (1, 3))] + [row()] * 23
        for at in (1, 2, 3):
            rows[at] = row(*[(1, to) for to in range(4 + 7 * (at - 1), min(24, 11 + 7 * (at - 1)))])
        self.assertEqual(len(told_of(Told(tuple(rows)))), 24)


if __name__ == "__main__":
    unittest.main()
