"""A look at a standing: bound, cut and ends."""

import unittest

from seekways.looks import look
from seekways.nets import Net
from seekways.tasks import Task
from seekways.told import Told
from tests.helpers import Watched, row


class Elsewhere(Watched):
    """A task that tells other ends than the task within."""

    def __init__(self, task, ends):
        super().__init__(task)
        self.told_ends = ends

    def ends(self):
        return self.told_ends


def at_first(*rows, **named):
    """What a look at row 0 tells, asked twice."""
    task = Watched(Told(rows, **named))
    first = look(task, (0,))
    assert look(task, (0,)) == first
    return first


class Bound(unittest.TestCase):
    def test_kept_at_its_edge(self):
        self.assertIsNone(at_first(row((2, 1), (1, 2), bound=5), row(bound=3), row(bound=4)))

    def test_broken_by_one_next(self):
        self.assertEqual(at_first(row((2, 1), bound=6), row(bound=3)), ("bound", (0,), (1,)))
        self.assertEqual(at_first(row((2, 1), (1, 2), bound=5), row(bound=3), row(bound=3)), ("bound", (0,), (2,)))

    def test_the_first_next_that_shows_it(self):
        rows = (row((9, 3), (1, 2), (1, 1), bound=5), row(), row(), row())
        self.assertEqual(at_first(*rows), ("bound", (0,), (2,)))

    def test_a_way_to_itself_keeps_it(self):
        self.assertIsNone(at_first(row((0, 0), bound=100000)))

    def test_nothing_next_keeps_it(self):
        self.assertIsNone(at_first(row(bound=100000)))

    def test_a_done_one(self):
        self.assertIsNone(at_first(row(done=True)))
        self.assertEqual(at_first(row((9, 1), done=True, bound=1), row()), ("bound", (0,), (0,)))

    def test_a_done_one_is_not_judged_by_its_nexts(self):
        self.assertIsNone(at_first(row((0, 1), done=True, cut=False), row(bound=0, done=True)))

    def test_at_another_standing_than_the_start(self):
        task = Told((row(bound=0), row((1, 0), bound=2)))
        self.assertEqual(look(task, (1,)), ("bound", (1,), (0,)))
        self.assertIsNone(look(task, (0,)))


class Cut(unittest.TestCase):
    def test_kept(self):
        self.assertIsNone(at_first(row((1, 1), (1, 2), cut=True), row(cut=True), row(cut=True)))
        self.assertIsNone(at_first(row(cut=True)))

    def test_one_that_is_not_cut_may_lead_to_cut_ones(self):
        self.assertIsNone(at_first(row((1, 1)), row(cut=True)))

    def test_the_first_next_that_is_not_cut(self):
        rows = (row((1, 3), (1, 2), (1, 1), cut=True), row(), row(), row(cut=True))
        self.assertEqual(at_first(*rows), ("cut", (0,), (2,)))

    def test_a_done_one(self):
        self.assertEqual(at_first(row((1, 1), done=True, cut=True), row()), ("cut", (0,), (0,)))

    def test_bound_is_told_ahead_of_cut(self):
        rows = (row((1, 1), (1, 2), cut=True, bound=4), row(bound=3), row(bound=0, cut=True))
        self.assertEqual(at_first(*rows), ("bound", (0,), (2,)))
        self.assertEqual(at_first(row(done=True, cut=True, bound=1)), ("bound", (0,), (0,)))


class Ends(unittest.TestCase):
    ROWS = (row((2, 1), (3, 2)), row((1, 2)), row(done=True))
    HEADS = ((), ((2, 0),), ((3, 0), (1, 1)))

    def test_kept(self):
        task = Watched(Told(self.ROWS, ends=(2,), heads=self.HEADS))
        for at in range(3):
            self.assertIsNone(look(task, (at,)))

    def test_where_they_are_not_told_nothing_is_ahead_of_nothing(self):
        task = Watched(Told(self.ROWS))
        for at in range(3):
            self.assertIsNone(look(task, (at,)))
        self.assertNotIn("ahead", [word for word, standing in task.asked])

    def test_an_end_that_is_not_done(self):
        for at in range(3):
            task = Told(self.ROWS, ends=(0, 1, 2), heads=self.HEADS)
            self.assertEqual(look(task, (at,)), ("ends", (at,), (0,)))
            task = Told(self.ROWS, ends=(1, 2), heads=self.HEADS)
            self.assertEqual(look(task, (at,)), ("ends", (at,), (1,)))

    def test_an_end_that_is_no_standing_of_the_task(self):
        inner = Told(self.ROWS, ends=(2,), heads=self.HEADS)
        for end in ((3,), (2, 0), (999,)):
            for at in range(3):
                self.assertEqual(look(Elsewhere(inner, ((2,), end)), (at,)), ("ends", (at,), end))
                self.assertEqual(look(Elsewhere(inner, (end, (0,))), (at,)), ("ends", (at,), end))

    def test_an_end_goes_ahead_of_a_next_and_of_itself(self):
        task = Told(self.ROWS, ends=(1,), heads=((), (), ()))
        self.assertEqual(look(task, (0,)), ("ends", (0,), (1,)))
        self.assertEqual(look(task, (2,)), ("ends", (2,), (1,)))

    def test_a_done_one_that_is_not_among_them(self):
        task = Watched(Told(self.ROWS, ends=(), heads=self.HEADS))
        self.assertEqual(look(task, (2,)), ("ends", (2,), (2,)))
        self.assertIsNone(look(task, (0,)))
        self.assertIsNone(look(task, (1,)))

    def test_a_next_that_does_not_have_it_ahead(self):
        for heads in (((), (), ((1, 1), (3, 0))), ((), ((3, 0),), ((3, 0),)), ((), ((2, 1),), ((3, 0),))):
            self.assertEqual(look(Told(self.ROWS, ends=(2,), heads=heads), (0,)), ("ends", (0,), (1,)))
        task = Told(self.ROWS, ends=(2,), heads=((), ((2, 0),), ((2, 0), (1, 1))))
        self.assertEqual(look(task, (0,)), ("ends", (0,), (2,)))
        self.assertIsNone(look(task, (1,)))

    def test_two_ways_to_one_next_for_two_costs(self):
        rows = (row((2, 1), (4, 1)), row(done=True))
        self.assertEqual(at_first(*rows, ends=(1,), heads=((), ((2, 0),))), ("ends", (0,), (1,)))
        self.assertIsNone(at_first(*rows, ends=(1,), heads=((), ((4, 0), (2, 0)))))

    def test_what_else_is_ahead_does_not_matter_here(self):
        heads = (((7, 2),), ((2, 0), (9, 2)), ((3, 0), (1, 1), (5, 1)))
        self.assertIsNone(look(Told(self.ROWS, ends=(2,), heads=heads), (0,)))

    def test_ahead_is_asked_of_the_nexts_alone(self):
        task = Watched(Told(self.ROWS, ends=(2,), heads=self.HEADS))
        look(task, (1,))
        look(task, (2,))
        self.assertEqual([standing for word, standing in task.asked if word == "ahead"], [(2,)])

    def test_bound_and_cut_are_told_ahead_of_ends(self):
        named = {"ends": (0,), "heads": ((), ())}
        self.assertEqual(at_first(row((1, 1), bound=2), row(), **named), ("bound", (0,), (1,)))
        self.assertEqual(at_first(row((1, 1), cut=True), row(), **named), ("cut", (0,), (1,)))
        self.assertEqual(at_first(row((1, 1), cut=True, bound=2), row(), **named), ("bound", (0,), (1,)))
        self.assertEqual(at_first(row((1, 1)), row(), **named), ("ends", (0,), (0,)))
        done = {"ends": (), "heads": ((),)}
        self.assertEqual(at_first(row(done=True, cut=True, bound=3), **done), ("bound", (0,), (0,)))
        self.assertEqual(at_first(row(done=True, cut=True), **done), ("cut", (0,), (0,)))
        self.assertEqual(at_first(row(done=True), **done), ("ends", (0,), (0,)))


class OtherTasks(unittest.TestCase):
    def test_the_task_by_itself(self):
        self.assertIsNone(look(Task(), (0,)))

    def test_a_net_with_guesses(self):
        net = Watched(Net(0, (((2, 1), (1, 2)), (), ()), (2,), guesses=(3, 0, 1)))
        self.assertEqual(look(net, (0,)), ("bound", (0,), (1,)))
        self.assertIsNone(look(net, (1,)))
        self.assertEqual(look(net, (2,)), ("bound", (2,), (2,)))


if __name__ == "__main__":
    unittest.main()
