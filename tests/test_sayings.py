"""Which sayings boards, covers and nets keep, at all standings that come from the start."""

import itertools
import unittest

from seekways.boards import Board
from seekways.covers import Cover
from seekways.looks import label, look, look_ahead, look_alike
from seekways.nets import Net
from tests.helpers import Watched, all_from_start


def boards():
    for groups in ((), ((0, 1),), ((0, 1), (1, 2)), ((0, 1, 2),), ((), (0,), (1, 2), (1, 2)), ((0, 2), (1,))):
        for colours, turns in ((1, ()), (2, ((2, 1),)), (3, ((2, 3, 1),)), (3, ((2, 1, 3), (1, 3, 2)))):
            for cells in ((0, 0, 0), (0, 1, 0), (1, 0, 1), (1, 1, 0), (1, 1, 1)):
                yield Board(cells, colours, groups, turns=turns)
    yield Board((0,) * 4, 4, ((0, 1), (2, 3)), turns=((2, 3, 4, 1), (2, 1, 3, 4)))
    yield Board((0, 0, 0, 2), 3, ((0, 1), (1, 2), (2, 3)))


def covers():
    some = ((0,), (1,), (2,), (0, 1), (1, 2), (0, 2), (0, 1, 2))
    for many in range(1, 4):
        rows = [row for row in some if row[-1] < many]
        for length in (1, 2, 3):
            for chosen in itertools.product(rows, repeat=length):
                yield Cover(many, chosen)
    yield Cover(6, ((0, 1, 2), (2, 3), (0, 5), (4,), (3, 4, 5), (1,)))
    yield Cover(10, ((0, 1, 2), (3, 4, 5, 6), (0, 9), (1, 2, 7, 8), (7,), (8, 9)))


def nets():
    steps = ((0, 0), (2, 1), (5, 2), (2, 1))
    for first, second in itertools.product(range(5), repeat=2):
        ways = (steps[:first], steps[-second:] if second else (), ((1, 0), (0, 1)))
        for goals in ((), (0,), (2,), (1, 2), (0, 1, 2)):
            yield Net(0, ways, goals)


def pairs_of_one_label(task, word, standings):
    labels = {}
    for standing in standings:
        labels.setdefault(label(task, word, standing), []).append(standing)
    for alike in labels.values():
        yield from itertools.product(alike, repeat=2)


class Kept(unittest.TestCase):
    def check(self, tasks, words):
        for inner in tasks:
            task = Watched(inner)
            standings = all_from_start(task)
            for standing in standings:
                self.assertTrue(task.has(standing))
                self.assertIsNone(look(task, standing))
                self.assertIsNone(look_ahead(task, standing))
            for word in words:
                for one, other in pairs_of_one_label(task, word, standings):
                    self.assertIsNone(look_alike(task, word, one, other))

    def test_boards(self):
        self.check(boards(), ("standing", "name", "turn"))

    def test_covers(self):
        self.check(covers(), ("standing", "name", "turn"))

    def test_nets_without_guesses(self):
        self.check(nets(), ("standing", "name", "turn"))


class Guesses(unittest.TestCase):
    WAYS = (((2, 1), (1, 2)), ((1, 2), (3, 0)), ((1, 0),))

    def test_nets_with_guesses_keep_name_cut_and_ends(self):
        for guesses in itertools.product((0, 1, 3), repeat=3):
            net = Watched(Net(0, self.WAYS, (2,), guesses=guesses))
            for at in range(3):
                told = look(net, (at,))
                self.assertTrue(told is None or told[0] == "bound", told)
                self.assertIsNone(look_alike(net, "name", (at,), (at,)))

    def test_guesses_may_break_bound_and_ahead(self):
        net = Net(0, self.WAYS, (2,), guesses=(3, 0, 0))
        self.assertEqual(look(net, (0,)), ("bound", (0,), (1,)))
        self.assertEqual(look_ahead(net, (1,)), ("ahead", (1,), (0,)))

    def test_guesses_that_are_true_keep_them(self):
        net = Net(0, self.WAYS, (2,), guesses=(1, 1, 0))
        for at in range(3):
            self.assertIsNone(look(net, (at,)))
            self.assertIsNone(look_ahead(net, (at,)))

    def test_turns_of_a_net_may_break_turn(self):
        net = Net(0, self.WAYS, (2,), turns=((0, 0, 2),))
        self.assertEqual(look_alike(net, "turn", (0,), (1,)), ("turn", (1,), (0,)))


if __name__ == "__main__":
    unittest.main()
