"""Labels by each word."""

import unittest

from seekways.boards import Board
from seekways.looks import label
from seekways.nets import Net
from seekways.tasks import Task
from seekways.told import Told
from seekways.wholes import WORDS
from tests.helpers import Watched, row


def named(*names, turns=()):
    return Told(tuple(row(name=name) for name in names), turns=turns)


def labels(task, word, many):
    return [label(task, word, (at,)) for at in range(many)]


class Labels(unittest.TestCase):
    def test_by_standing_and_by_name(self):
        task = named(7, 3, 3, 0)
        self.assertEqual(labels(task, "standing", 4), [(0,), (1,), (2,), (3,)])
        self.assertEqual(labels(task, "name", 4), [(7,), (3,), (3,), (0,)])

    def test_by_turn_without_turnings_is_the_name(self):
        self.assertEqual(labels(named(7, 3, 3, 0), "turn", 4), [(7,), (3,), (3,), (0,)])

    def test_turnings_change_neither_other_word(self):
        task = named(7, 3, 5, turns=((1, 2, 0),))
        self.assertEqual(labels(task, "standing", 3), [(0,), (1,), (2,)])
        self.assertEqual(labels(task, "name", 3), [(7,), (3,), (5,)])

    def test_turnings_that_go_round(self):
        self.assertEqual(labels(named(7, 3, 5, 1, turns=((1, 2, 0, 3),)), "turn", 4), [(3,), (3,), (3,), (1,)])

    def test_turnings_that_end_in_one_standing(self):
        self.assertEqual(labels(named(7, 3, 5, turns=((1, 1, 1),)), "turn", 3), [(3,), (3,), (3,)])
        self.assertEqual(labels(named(1, 3, 0, turns=((1, 1, 1),)), "turn", 3), [(1,), (3,), (0,)])

    def test_turnings_that_leave_standings_where_they_are(self):
        self.assertEqual(labels(named(7, 3, 5, turns=((0, 1, 2),)), "turn", 3), [(7,), (3,), (5,)])

    def test_turnings_that_do_not_lead_back(self):
        self.assertEqual(labels(named(4, 3, 2, 1, turns=((1, 2, 3, 3),)), "turn", 4), [(1,)] * 4)
        self.assertEqual(labels(named(1, 2, 3, 4, turns=((1, 2, 3, 3),)), "turn", 4), [(1,), (2,), (3,), (4,)])

    def test_several_turnings_again_and_again_in_any_order(self):
        task = named(9, 8, 7, 6, 5, turns=((1, 1, 3, 3, 4), (0, 2, 2, 4, 4)))
        self.assertEqual(labels(task, "turn", 5), [(5,)] * 5)

    def test_three_turnings(self):
        task = named(9, 8, 7, 6, turns=((1, 1, 2, 3), (0, 2, 2, 3), (0, 1, 3, 3)))
        self.assertEqual(labels(task, "turn", 4), [(6,)] * 4)

    def test_the_least_name_not_the_name_of_the_least_standing(self):
        self.assertEqual(labels(named(50, 2, turns=((1, 0),)), "turn", 2), [(2,), (2,)])

    def test_a_shared_name(self):
        task = named(4, 4, 9, turns=((2, 1, 2),))
        self.assertEqual(labels(task, "turn", 3), [(4,), (4,), (9,)])

    def test_boards_compare_as_tuples_do(self):
        board = Board((0, 0, 0), 3, (), turns=((2, 3, 1),))
        self.assertEqual(label(board, "turn", (0, 3, 1)), (0, 1, 2))
        self.assertEqual(label(board, "turn", (2, 1, 0)), (1, 3, 0))
        self.assertEqual(label(board, "name", (2, 1, 0)), (2, 1, 0))

    def test_nets_and_the_task_by_itself(self):
        net = Net(0, ((), (), ()), (), turns=((1, 2, 2),))
        self.assertEqual([label(net, "turn", (at,)) for at in range(3)], [(0,), (1,), (2,)])
        for word in WORDS:
            self.assertEqual(label(Task(), word, (0,)), (0,))

    def test_no_label_asks_nexts_or_ahead(self):
        task = Watched(named(4, 4, 9, turns=((2, 1, 2),)))
        for word in WORDS:
            label(task, word, (0,))
        self.assertEqual(task.asked, [])


if __name__ == "__main__":
    unittest.main()
