"""Trees: all tries of a task in order."""

import unittest

from seekways.boards import Board
from seekways.nets import Net
from seekways.rests import Rest
from seekways.rooms import Rooms
from seekways.tasks import Task
from seekways.told import Told
from seekways.trees import tree_holds
from tests.helpers import ODD, Watched, row
from tests.makers import answers_of, broken_told, kept_told
from tests.samples import samples


def tree(task, cuts):
    """All leaves, by tries within tries."""
    def tried(standing, steps, way):
        if task.is_done(standing):
            return [(steps, "done")]
        if standing in way:
            return [(steps, "round")]
        if cuts and task.cut(standing):
            return [(steps, "cut")]
        nexts = task.nexts(standing)
        if not nexts:
            return [(steps, "none")]
        return [leaf for step, (cost, to) in enumerate(nexts) for leaf in tried(to, steps + (step,), way + (standing,))]
    return tuple(tried(task.start(), (), ()))


def layers(*widths):
    """A told task in which row i has so many nexts, all to row i + 1, the last row done."""
    rows = [row(*[(1, at + 1)] * width) for at, width in enumerate(widths)]
    return Told((*rows, row(done=True)))


def others(leaves):
    """The leaves with one thing otherwise."""
    yield ()
    yield leaves[1:]
    yield leaves[:-1]
    yield leaves + leaves[-1:]
    yield leaves[:1] + leaves
    yield list(leaves)
    if len(leaves) > 1:
        yield leaves[1:2] + leaves[:1] + leaves[2:]
        yield leaves[::-1]
    for at, (steps, why) in enumerate(leaves):
        for leaf in (
            *[(steps, word) for word in ("done", "round", "none", "cut", "", None, ("done",)) if word != why],
            (steps + (0,), why), (list(steps), why), [steps, why], (steps,), (steps, why, 0), None, steps, why,
            *[(steps[:at] + (step + 1,) + steps[at + 1:], why) for at, step in enumerate(steps)],
            *[(steps[:at] + (True if step else False,) + steps[at + 1:], why) for at, step in enumerate(steps)],
            *([(steps[:-1], why)] if steps else []),
        ):
            yield leaves[:at] + (leaf,) + leaves[at + 1:]


SMALL = Told((
    row((1, 1), (1, 2), (1, 3)),
    row((1, 0), (1, 4)),
    row(cut=True),
    row((1, 4), cut=True),
    row((1, 0), done=True),
))


class ByHand(unittest.TestCase):
    PLAIN = (((0, 0), "round"), ((0, 1), "done"), ((1,), "none"), ((2, 0), "done"))
    CUT = (((0, 0), "round"), ((0, 1), "done"), ((1,), "cut"), ((2,), "cut"))

    def test_without_cuts(self):
        self.assertIs(tree_holds(SMALL, self.PLAIN), True)
        self.assertIs(tree_holds(SMALL, self.PLAIN, cuts=False), True)
        self.assertIs(tree_holds(SMALL, self.CUT), False)

    def test_with_cuts(self):
        self.assertIs(tree_holds(SMALL, self.CUT, cuts=True), True)
        self.assertIs(tree_holds(SMALL, self.PLAIN, cuts=True), False)

    def test_one_leaf(self):
        self.assertIs(tree_holds(Told((row((1, 0), done=True, cut=True),)), (((), "done"),), cuts=True), True)
        self.assertIs(tree_holds(Task(), (((), "none"),)), True)
        self.assertIs(tree_holds(Told((row(cut=True),)), (((), "cut"),), cuts=True), True)
        self.assertIs(tree_holds(Told((row(cut=True),)), (((), "none"),)), True)
        self.assertIs(tree_holds(Net(0, (((0, 0), (1, 0)),), ()), (((0,), "round"), ((1,), "round"))), True)

    def test_round_beside_cut(self):
        task = Told((row((1, 1)), row((1, 1), (1, 2)), row(cut=True)))
        self.assertIs(tree_holds(task, (((0, 0), "round"), ((0, 1), "cut")), cuts=True), True)

    def test_the_same_standing_on_another_way_is_no_round(self):
        task = Told((row((1, 1), (1, 2)), row((1, 2)), row((1, 3)), row()))
        self.assertIs(tree_holds(task, (((0, 0, 0), "none"), ((1, 0), "none"))), True)

    def test_cuts_is_handed_in_by_name_alone(self):
        with self.assertRaises(TypeError):
            tree_holds(SMALL, self.CUT, True)


class Right(unittest.TestCase):
    def tasks(self):
        return [*samples(), Rest(Rooms((2, 2, 1), 2, 4), (1, 2, 0)), *[kept_told(seed) for seed in range(30)],
                *[broken_told(seed) for seed in range(30)]]

    def test_right_trees(self):
        for task in self.tasks():
            for cuts in (False, True):
                leaves = tree(task, cuts)
                self.assertIs(tree_holds(Watched(task), leaves, cuts=cuts), len(leaves) <= 2000)

    def test_done_leaves_are_the_answers(self):
        for task in self.tasks()[:40]:
            answers = [steps for cost, steps in answers_of(task)]
            self.assertEqual([steps for steps, why in tree(task, False) if why == "done"], answers)

    def test_one_thing_otherwise(self):
        for task in self.tasks():
            for cuts in (False, True):
                leaves = tree(task, cuts)
                if len(leaves) < 12:
                    for other in others(leaves):
                        self.assertIs(tree_holds(task, other, cuts=cuts), False, other)

    def test_anything(self):
        for task in (SMALL, Task(), Board((1,), 1, ())):
            for thing in (*ODD, 0, 5, ((),), ((), ()), (((), "done"), None), (None,) * 1000, (((),),), ({}, [])):
                for cuts in (False, True):
                    self.assertIs(tree_holds(task, thing, cuts=cuts), False, thing)


class Many(unittest.TestCase):
    def test_2000_leaves(self):
        task = layers(8, 5, 5, 5, 2)
        leaves = tree(task, False)
        self.assertEqual(len(leaves), 2000)
        self.assertIs(tree_holds(task, leaves), True)
        self.assertIs(tree_holds(task, leaves[:-1]), False)
        self.assertIs(tree_holds(task, leaves[:-1] + ((leaves[-1][0], "none"),)), False)
        self.assertIs(tree_holds(task, leaves + leaves[-1:]), False)

    def test_2001_leaves_and_more(self):
        rows = layers(5, 8, 5, 5, 2).table
        task = Told(((rows[0][0] + ((1, 6),), False, 0, 0, False), *rows[1:], row()))
        leaves = tree(task, False)
        self.assertEqual(len(leaves), 2001)
        self.assertIs(tree_holds(task, leaves), False)
        self.assertIs(tree_holds(task, leaves[:2000]), False)
        wide = layers(8, 8, 8, 8)
        self.assertIs(tree_holds(wide, tree(wide, False)), False)
        self.assertIs(tree_holds(wide, tree(wide, False)[:2000]), False)

    def test_tasks_with_more_tries_than_can_be_gone(self):
        wide = layers(*[8] * 23)
        self.assertIs(tree_holds(wide, (((0,) * 23, "done"),) * 2000), False)
        self.assertIs(tree_holds(wide, (((0,) * 23, "done"),)), False)
        self.assertIs(tree_holds(Board((0,) * 9, 4, ()), ()), False)


if __name__ == "__main__":
    unittest.main()
