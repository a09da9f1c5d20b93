"""Told tasks: the doors, the fields, equality, length and text."""

import unittest

from seekways.tasks import Task
from seekways.told import Told
from tests.helpers import ODD, row

ROWS = (
    row((2, 1), (5, 3), (0, 0), name=4, bound=3),
    row((1000, 2), name=99, bound=100000),
    row(cut=True, name=4),
    row((1, 0), done=True, name=7),
    row((3, 3), (3, 3), bound=1),
)
TURNS = ((0, 2, 1, 3, 4), (4, 4, 4, 4, 4))
ENDS = (2, 3)
HEADS = (((0, 0),), ((2, 0),), (), ((5, 0), (3, 4), (3, 4)), ((1000, 4),))


def plain():
    return Told(ROWS)


def whole():
    return Told(ROWS, turns=TURNS, ends=ENDS, heads=HEADS)


class Doors(unittest.TestCase):
    def test_is_a_task(self):
        self.assertIsInstance(plain(), Task)

    def test_start(self):
        self.assertEqual(plain().start(), (0,))

    def test_has(self):
        for number in range(8):
            self.assertIs(plain().has((number,)), number < 5, number)
        for thing in (*ODD, 0, 1, (0, 0), (5,), (999,), [1]):
            self.assertIs(plain().has(thing), False, thing)

    def test_has_of_one_row(self):
        one = Told((row(),))
        self.assertIs(one.has((0,)), True)
        self.assertIs(one.has((1,)), False)
        self.assertIs(one.has((False,)), False)

    def test_nexts(self):
        for task in (plain(), whole()):
            self.assertEqual(task.nexts((0,)), ((2, (1,)), (5, (3,)), (0, (0,))))
            self.assertEqual(task.nexts((1,)), ((1000, (2,)),))
            self.assertEqual(task.nexts((2,)), ())
            self.assertEqual(task.nexts((4,)), ((3, (3,)), (3, (3,))))

    def test_done_and_cut(self):
        task = plain()
        self.assertEqual([task.is_done((at,)) for at in range(5)], [False, False, False, True, False])
        self.assertEqual([task.cut((at,)) for at in range(5)], [False, False, True, False, False])
        self.assertIs(task.is_done((3,)), True)
        self.assertIs(task.cut((3,)), False)

    def test_names_and_bounds(self):
        task = plain()
        self.assertEqual([task.named((at,)) for at in range(5)], [(4,), (99,), (4,), (7,), (0,)])
        self.assertEqual([task.bound((at,)) for at in range(5)], [3, 100000, 0, 0, 1])

    def test_turnings(self):
        self.assertEqual(plain().turnings(), 0)
        self.assertEqual(whole().turnings(), 2)
        self.assertEqual([whole().turned(0, (at,)) for at in range(5)], [(0,), (2,), (1,), (3,), (4,)])
        self.assertEqual([whole().turned(1, (at,)) for at in range(5)], [(4,)] * 5)

    def test_ends(self):
        self.assertIs(plain().ends(), None)
        self.assertEqual(whole().ends(), ((2,), (3,)))
        self.assertEqual(Told(ROWS, ends=(), heads=((),) * 5).ends(), ())

    def test_ahead(self):
        task = whole()
        self.assertEqual(plain().ahead((3,)), ())
        self.assertEqual(task.ahead((0,)), ((0, (0,)),))
        self.assertEqual(task.ahead((1,)), ((2, (0,)),))
        self.assertEqual(task.ahead((2,)), ())
        self.assertEqual(task.ahead((3,)), ((5, (0,)), (3, (4,)), (3, (4,))))
        self.assertEqual(task.ahead((4,)), ((1000, (4,)),))

    def test_same_told_again(self):
        task = whole()
        for at in range(5):
            self.assertEqual(task.nexts((at,)), task.nexts((at,)))
            self.assertEqual(task.ahead((at,)), task.ahead((at,)))


class Fields(unittest.TestCase):
    def test_as_handed_in(self):
        task = whole()
        self.assertEqual((task.table, task.maps, task.targets, task.heads), (ROWS, TURNS, ENDS, HEADS))

    def test_where_nothing_was_handed_in_by_name(self):
        task = plain()
        self.assertEqual((task.table, task.maps, task.targets, task.heads), (ROWS, (), None, None))

    def test_what_stands_behind_the_star_is_handed_in_by_name_alone(self):
        with self.assertRaises(TypeError):
            Told(ROWS, TURNS)


class Equality(unittest.TestCase):
    def test_equal_where_all_is(self):
        self.assertTrue(plain() == plain())
        self.assertTrue(whole() == whole())
        self.assertFalse(whole() != whole())

    def test_unequal_where_one_part_is_other(self):
        parts = {"turns": TURNS, "ends": ENDS, "heads": HEADS}
        others = [
            Told(ROWS[:4] + (row((3, 3), (3, 3), bound=2),), **parts),
            Told(ROWS, turns=TURNS[:1], ends=ENDS, heads=HEADS),
            Told(ROWS, turns=TURNS[::-1], ends=ENDS, heads=HEADS),
            Told(ROWS, turns=TURNS, ends=(3,), heads=HEADS),
            Told(ROWS, turns=TURNS, ends=ENDS, heads=HEADS[:4] + ((),)),
            Told(ROWS, turns=TURNS),
            plain(),
        ]
        for other in others:
            self.assertFalse(whole() == other)
            self.assertFalse(other == whole())
            self.assertTrue(whole() != other)

    def test_equals_nothing_else(self):
        for thing in (*ODD, 5, ROWS, "told task of 5 standings", Task(), (ROWS, (), None, None)):
            self.assertFalse(plain() == thing, thing)
            self.assertFalse(thing == plain(), thing)
            self.assertTrue(plain() != thing, thing)

    def test_asked_is_a_truth(self):
        for other in (plain(), whole(), None, 5):
            self.assertIsInstance(plain() == other, bool)


class LengthAndText(unittest.TestCase):
    def test_length(self):
        for many in (1, 2, 23, 24):
            self.assertEqual(len(Told((row(),) * many)), many)

    def test_text(self):
        self.assertEqual(str(whole()), "told task of 5 standings")
        self.assertEqual(str(Told((row(),))), "told task of 1 standings")
        self.assertEqual(str(Told((row(),) * 24)), "told task of 24 standings")


class BreaksAreMade(unittest.TestCase):
    def test_a_table_that_breaks_sayings_is_made(self):
        rows = (
            row((0, 1), (0, 2), bound=100000, cut=True),
            row((0, 0), done=True, bound=7, cut=True, name=0),
            row(name=0),
        )
        task = Told(rows, turns=((1, 1, 1),), ends=(0, 2), heads=(((9, 1),), (), ((1, 0),)))
        self.assertEqual(task.table, rows)


if __name__ == "__main__":
    unittest.main()
