"""Which sayings given tasks, their rests and told copies keep, at all standings that come from the start."""

import itertools
import unittest

from seekways.boards import Board
from seekways.covers import Cover
from seekways.errors import TooWide
from seekways.looks import label, look, look_ahead, look_alike
from seekways.nets import Net
from seekways.orders import Orders
from seekways.rests import Rest, told_of
from seekways.rooms import Rooms
from tests.helpers import Watched, all_from_start
from tests.samples import kept


def boards():
    for groups in ((), ((0, 1),), ((0, 1), (1, 2)), ((0, 1, 2),), ((), (0,), (1, 2), (1, 2)), ((0, 2), (1,))):
        for colours, turns in ((1, ()), (2, ((2, 1),)), (3, ((2, 3, 1),)), (3, ((2, 1, 3), (1, 3, 2)))):
            for cells in ((0, 0, 0), (0, 1, 0), (1, 0, 1), (1, 1, 0), (1, 1, 1)):
                yield Board(cells, colours, groups, turns=turns)
    yield Board((0,) * 4, 4, ((0, 1), (2, 3)), turns=((2, 3, 4, 1), (2, 1, 3, 4)))
    yield Board((0, 0, 0, 2), 3, ((0, 1), (1, 2), (2, 3)))


def covers():
    some = ((0,), (1,), (2,), (0, 1), (1, 2), (0, 2), (0, 1, 2))
    for many in range(1, 4):
        rows = [row for row in some if row[-1] < many]
        for length in (1, 2, 3):
            for chosen in itertools.product(rows, repeat=length):
                yield Cover(many, chosen)
    yield Cover(6, ((0, 1, 2), (2, 3), (0, 5), (4,), (3, 4, 5), (1,)))
    yield Cover(10, ((0, 1, 2), (3, 4, 5, 6), (0, 9), (1, 2, 7, 8), (7,), (8, 9)))


def nets():
    steps = ((0, 0), (2, 1), (5, 2), (2, 1))
    for first, second in itertools.product(range(5), repeat=2):
        ways = (steps[:first], steps[-second:] if second else (), ((1, 0), (0, 1)))
        for goals in ((), (0,), (2,), (1, 2), (0, 1, 2)):
            yield Net(0, ways, goals)


def rooms():
    for sizes in itertools.chain.from_iterable(itertools.product((1, 2, 3), repeat=many) for many in (1, 2, 3)):
        for many, space in ((1, 1), (1, 4), (2, 2), (2, 3), (3, 3), (2, 99)):
            yield Rooms(sizes, many, space)
    yield Rooms((3, 5, 2, 4, 1), 3, 6)
    yield Rooms((2, 1, 2, 1, 2), 4, 3)
    yield Rooms((7, 1, 99), 2, 50)


def orders():
    jobs = ((1, 0), (2, 3), (20, 120), (3, 2))
    for many in (1, 2, 3):
        for chosen in itertools.product(jobs, repeat=many):
            yield Orders(chosen)
    yield Orders(((20, 0),) * 5)
    yield Orders(((3, 9), (8, 8), (1, 0), (5, 30), (2, 2)))


def rests(tasks):
    for task in tasks:
        for standing in all_from_start(task)[::3]:
            yield Rest(task, standing)


def copies(tasks):
    for task in tasks:
        try:
            yield told_of(task)
        except TooWide:
            pass


def pairs_of_one_label(task, word, standings):
    labels = {}
    for standing in standings:
        labels.setdefault(label(task, word, standing), []).append(standing)
    for alike in labels.values():
        yield from itertools.product(alike, repeat=2)


class Kept(unittest.TestCase):
    def check(self, tasks, words):
        for inner in tasks:
            task = Watched(inner)
            standings = all_from_start(task)
            for standing in standings:
                self.assertTrue(task.has(standing))
                self.assertIsNone(look(task, standing))
                self.assertIsNone(look_ahead(task, standing))
            for word in words:
                for one, other in pairs_of_one_label(task, word, standings):
                    self.assertIsNone(look_alike(task, word, one, other))

    def test_boards(self):
        self.check(boards(), ("standing", "name", "turn"))

    def test_covers(self):
        self.check(covers(), ("standing", "name", "turn"))

    def test_samples(self):
        self.check(kept(), ("standing", "name", "turn"))

    def test_rooms(self):
        self.check(rooms(), ("standing", "name", "turn"))

    def test_orders(self):
        self.check(orders(), ("standing", "name", "turn"))

    def test_rests(self):
        some = [*list(boards())[::9], *list(covers())[::20], *list(rooms())[::11], *list(orders())[::7]]
        self.check(rests(some), ("standing", "name", "turn"))
        self.check(rests(list(rests(some))[::5]), ("standing", "name", "turn"))

    def test_told_copies(self):
        some = [*list(boards())[::3], *list(covers())[::9], *rooms(), *orders()]
        self.check(copies(some), ("standing", "name", "turn"))
        self.check(copies(list(rests(some))[::5]), ("standing", "name", "turn"))

    def test_rests_and_told_copies_of_nets_without_guesses(self):
        some = list(nets())[::7]
        self.check(rests(some), ("standing", "name", "turn"))
        self.check(copies(some), ("standing", "name", "turn"))

    def test_nets_without_guesses(self):
        self.check(nets(), ("standing", "name", "turn"))


class Guesses(unittest.TestCase):
    WAYS = (((2, 1), (1, 2)), ((1, 2), (3, 0)), ((1, 0),))

    def test_nets_with_guesses_keep_name_cut_and_ends(self):
        for guesses in itertools.product((0, 1, 3), repeat=3):
            net = Watched(Net(0, self.WAYS, (2,), guesses=guesses))
            for at in range(3):
                told = look(net, (at,))
                self.assertTrue(told is None or told[0] == "bound", told)
                self.assertIsNone(look_alike(net, "name", (at,), (at,)))

    def test_guesses_may_break_bound_and_ahead(self):
        net = Net(0, self.WAYS, (2,), guesses=(3, 0, 0))
        self.assertEqual(look(net, (0,)), ("bound", (0,), (1,)))
        self.assertEqual(look_ahead(net, (1,)), ("ahead", (1,), (0,)))

    def test_guesses_that_are_true_keep_them(self):
        net = Net(0, self.WAYS, (2,), guesses=(1, 1, 0))
        for at in range(3):
            self.assertIsNone(look(net, (at,)))
            self.assertIsNone(look_ahead(net, (at,)))

    def test_turns_of_a_net_may_break_turn(self):
        net = Net(0, self.WAYS, (2,), turns=((0, 0, 2),))
        self.assertEqual(look_alike(net, "turn", (0,), (1,)), ("turn", (1,), (0,)))


if __name__ == "__main__":
    unittest.main()
