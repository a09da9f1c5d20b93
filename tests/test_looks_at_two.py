"""A look at two standings by a word, and a look ahead of one."""

import unittest

from seekways.boards import Board
from seekways.looks import look_ahead, look_alike
from seekways.tasks import Task
from seekways.told import Told
from seekways.wholes import WORDS
from tests.helpers import Watched, row


class Alike(unittest.TestCase):
    def check(self, task, word, broken, one=(0,), other=(1,)):
        """Look at the two either way round."""
        task = Watched(task)
        self.assertEqual(look_alike(task, word, one, other), (word, other, one) if broken else None)
        self.assertEqual(look_alike(task, word, other, one), (word, one, other) if broken else None)

    def both(self, broken, *rows):
        """By name, and by turn where a turning makes the names one."""
        self.check(Told(rows), "name", broken)
        apart = (rows[0], (*rows[1][:2], 99, *rows[1][3:]), *rows[2:])
        turn = (1, 0, *range(2, len(rows)))
        self.check(Told(apart, turns=(turn,)), "turn", broken)

    def test_kept(self):
        self.both(False, row(), row())
        self.both(False, row((1, 2), bound=1), row((1, 2), bound=1), row(name=5))
        self.both(False, row(cut=True), row(cut=True))

    def test_done(self):
        self.both(True, row(done=True), row())
        self.both(False, row(done=True), row(done=True))

    def test_cut(self):
        self.both(True, row(cut=True), row())
        self.both(True, row(done=True, cut=True), row(done=True))

    def test_bound(self):
        self.both(True, row(bound=1), row(bound=2))
        self.both(True, row(done=True, bound=1), row(done=True))

    def test_costs_of_nexts(self):
        self.both(True, row((1, 2)), row((2, 2)), row(name=5))
        self.both(True, row((1, 2)), row((1, 2), (1, 2)), row(name=5))
        self.both(True, row(), row((1, 2)), row(name=5))

    def test_labels_of_nexts(self):
        self.both(True, row((1, 2)), row((1, 3)), row(name=5), row(name=6))
        self.both(False, row((1, 2)), row((1, 3)), row(name=5), row(name=5))

    def test_sorted(self):
        self.both(False, row((1, 2), (2, 3)), row((2, 3), (1, 2)), row(name=5), row(name=6))
        self.both(False, row((1, 2), (1, 3)), row((1, 3), (1, 2)), row(name=5), row(name=6))
        self.both(True, row((1, 2), (2, 3)), row((2, 2), (1, 3)), row(name=5), row(name=6))
        self.both(True, row((1, 2), (1, 2), (2, 2)), row((1, 2), (2, 2), (2, 2)), row(name=5))

    def test_nexts_of_done_ones_do_not_matter(self):
        self.both(False, row((1, 2), done=True), row(done=True), row())

    def test_nexts_are_labelled_by_the_word(self):
        rows = (row((1, 2)), row((1, 3)), row(name=5), row(name=6))
        turns = ((0, 1, 3, 2),)
        self.check(Told(rows, turns=turns), "name", True)
        self.check(Told(rows, turns=turns), "turn", False)

    def test_a_standing_beside_itself(self):
        rows = (row((1, 0), (1, 1), bound=9, cut=True), row(done=True, cut=True, bound=3))
        for word in WORDS:
            for at in range(2):
                self.assertIsNone(look_alike(Watched(Told(rows)), word, (at,), (at,)))

    def test_the_task_by_itself(self):
        for word in WORDS:
            self.assertIsNone(look_alike(Task(), word, (0,), (0,)))

    def test_a_board(self):
        board = Board((0, 0, 0), 2, ((0, 1),), turns=((2, 1),))
        self.check(board, "turn", False, (1, 0, 0), (2, 0, 0))

    def test_the_same_told_again(self):
        task = Told((row(bound=1), row()))
        for at in range(2):
            self.assertEqual(look_alike(task, "name", (0,), (1,)), ("name", (1,), (0,)))


class Ahead(unittest.TestCase):
    ROWS = (row((2, 2), (4, 2), bound=2), row((1, 2), bound=1), row(done=True))

    def at_last(self, *pairs, rows=ROWS):
        """What a look ahead of row 2 tells, asked twice."""
        task = Watched(Told(rows, ends=(), heads=((), (), pairs)))
        told = look_ahead(task, (2,))
        self.assertEqual(look_ahead(task, (2,)), told)
        self.assertEqual({standing for word, standing in task.asked if word == "ahead"}, {(2,)})
        return told

    def test_kept(self):
        self.assertIsNone(self.at_last())
        self.assertIsNone(self.at_last((2, 0), (4, 0), (1, 1), (1, 1)))

    def test_one_that_is_done(self):
        rows = (self.ROWS[0], self.ROWS[1], row((3, 2), done=True))
        self.assertEqual(self.at_last((3, 2), rows=rows), ("ahead", (2,), (2,)))

    def test_one_that_does_not_lead_there_for_that_cost(self):
        for pair in ((1, 0), (3, 0), (2, 1), (0, 1)):
            self.assertEqual(self.at_last(pair), ("ahead", (2,), (pair[1],)))

    def test_a_bound_that_is_too_great(self):
        rows = (row((2, 2), (4, 2), bound=3), row((1, 2), bound=1), row(done=True))
        self.assertEqual(self.at_last((1, 1), (2, 0), rows=rows), ("ahead", (2,), (0,)))
        self.assertIsNone(self.at_last((4, 0), (1, 1), rows=rows))
        rows = (row((2, 2), bound=5), row(), row(bound=3))
        self.assertIsNone(self.at_last((2, 0), rows=rows))
        rows = (row((2, 2), bound=6), row(), row(bound=3))
        self.assertEqual(self.at_last((2, 0), rows=rows), ("ahead", (2,), (0,)))

    def test_the_first_that_shows_it(self):
        self.assertEqual(self.at_last((2, 0), (7, 1), (7, 0)), ("ahead", (2,), (1,)))
        self.assertEqual(self.at_last((7, 0), (7, 1)), ("ahead", (2,), (0,)))

    def test_one_that_is_no_standing_of_the_task(self):
        class Beyond(Watched):
            def ahead(self, standing):
                return ((2, (0,)), (1, (3,)), (7, (1,)))

        self.assertEqual(look_ahead(Beyond(Told(self.ROWS)), (2,)), ("ahead", (2,), (3,)))

    def test_where_no_ends_are_told(self):
        self.assertIsNone(look_ahead(Told(self.ROWS), (2,)))
        self.assertIsNone(look_ahead(Task(), (0,)))

    def test_at_a_start(self):
        task = Told((row((1, 1)), row((3, 0))), ends=(), heads=(((3, 1),), ((2, 0),)))
        self.assertIsNone(look_ahead(task, (0,)))
        self.assertEqual(look_ahead(task, (1,)), ("ahead", (1,), (0,)))


if __name__ == "__main__":
    unittest.main()
