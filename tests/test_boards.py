"""Boards: their doors, and what is refused."""

import itertools
import unittest

from seekways.boards import Board
from seekways.tasks import Task
from tests.helpers import ODD, place_of

SMALL = Board((0, 0, 2), 2, ((0, 1), (1, 2), ()), turns=((2, 1), (1, 2)))
LARGE = Board((0,) * 9, 4, ((0, 1, 2), (3, 4, 5), (6, 7, 8), (0, 3, 6), (1, 4, 7), (2, 5, 8)) * 2,
              turns=((2, 3, 4, 1), (1, 2, 4, 3), (4, 3, 2, 1)))


class Doors(unittest.TestCase):
    def test_is_a_task(self):
        self.assertIsInstance(SMALL, Task)

    def test_start(self):
        self.assertEqual(SMALL.start(), (0, 0, 2))
        self.assertEqual(LARGE.start(), (0,) * 9)
        self.assertEqual(Board((4,), 4, ()).start(), (4,))

    def test_has(self):
        for thing in itertools.product(range(-1, 4), repeat=3):
            self.assertIs(SMALL.has(thing), all(0 <= colour <= 2 for colour in thing), thing)
        for thing in (*ODD, 0, (0, 0), (0, 0, 0, 0), [0, 0, 0], (0, 0, True), (False, 0, 0), (0, 0, None)):
            self.assertIs(SMALL.has(thing), False, thing)
        self.assertIs(LARGE.has((4,) * 9), True)
        self.assertIs(LARGE.has((5,) + (4,) * 8), False)

    def test_nexts(self):
        self.assertEqual(SMALL.nexts((0, 0, 2)), ((1, (1, 0, 2)), (1, (2, 0, 2))))
        self.assertEqual(SMALL.nexts((1, 0, 2)), ())
        self.assertEqual(SMALL.nexts((2, 0, 2)), ((1, (2, 1, 2)),))
        self.assertEqual(SMALL.nexts((2, 1, 0)), ((1, (2, 1, 2)),))
        self.assertEqual(SMALL.nexts((0, 1, 1)), ((1, (2, 1, 1)),))
        self.assertEqual(SMALL.nexts((1, 1, 1)), ())

    def test_nexts_of_a_large_one(self):
        self.assertEqual([to[0] for cost, to in LARGE.nexts((0,) * 9)], [1, 2, 3, 4])
        self.assertEqual([to for cost, to in LARGE.nexts((1, 0, 0, 0, 3, 0, 0, 0, 0))],
                         [(1, 2, 0, 0, 3, 0, 0, 0, 0), (1, 4, 0, 0, 3, 0, 0, 0, 0)])

    def test_done(self):
        for thing in itertools.product(range(3), repeat=3):
            self.assertIs(SMALL.is_done(thing), thing in ((1, 2, 1), (2, 1, 2)), thing)

    def test_done_where_there_are_no_groups(self):
        board = Board((0, 1), 1, ())
        self.assertIs(board.is_done((0, 1)), False)
        self.assertIs(board.is_done((1, 1)), True)
        self.assertEqual(board.nexts((0, 1)), ((1, (1, 1)),))

    def test_cut(self):
        self.assertIs(SMALL.cut((0, 0, 2)), False)
        self.assertIs(SMALL.cut((1, 0, 2)), True)
        self.assertIs(SMALL.cut((1, 1, 0)), True)
        self.assertIs(SMALL.cut((2, 1, 0)), False)
        self.assertIs(SMALL.cut((0, 2, 2)), True)
        self.assertIs(SMALL.cut((1, 1, 1)), True)
        self.assertIs(SMALL.cut((2, 1, 2)), False)
        self.assertIs(SMALL.cut((0, 0, 0)), False)

    def test_cut_by_an_empty_cell_that_is_not_the_first(self):
        board = Board((0, 1, 2, 0), 2, ((1, 2, 3),))
        self.assertIs(board.cut((0, 1, 2, 0)), True)
        self.assertEqual(board.nexts((0, 1, 2, 0)), ((1, (1, 1, 2, 0)), (1, (2, 1, 2, 0))))

    def test_bound_and_name(self):
        for thing in itertools.product(range(3), repeat=3):
            self.assertEqual(SMALL.bound(thing), sum(colour == 0 for colour in thing))
            self.assertEqual(SMALL.named(thing), thing)
        self.assertEqual(LARGE.bound((0,) * 9), 9)

    def test_turnings(self):
        self.assertEqual(SMALL.turnings(), 2)
        self.assertEqual(SMALL.turned(0, (0, 1, 2)), (0, 2, 1))
        self.assertEqual(SMALL.turned(1, (0, 1, 2)), (0, 1, 2))
        self.assertEqual(LARGE.turnings(), 3)
        self.assertEqual(LARGE.turned(0, (0, 1, 2, 3, 4, 0, 1, 2, 3)), (0, 2, 3, 4, 1, 0, 2, 3, 4))
        self.assertEqual(LARGE.turned(1, (1, 2, 3, 4) + (0,) * 5), (1, 2, 4, 3) + (0,) * 5)
        self.assertEqual(Board((0,), 1, ()).turnings(), 0)
        self.assertEqual(Board((0,), 1, (), turns=((1,),)).turned(0, (1,)), (1,))

    def test_ends_are_not_told(self):
        self.assertIsNone(SMALL.ends())
        self.assertEqual(SMALL.ahead((0, 0, 2)), ())

    def test_groups_that_are_empty_alike_or_of_one(self):
        board = Board((0, 0), 1, ((), (0,), (0,), (), (0, 1), (0, 1)))
        self.assertEqual(board.nexts((0, 0)), ((1, (1, 0)),))
        self.assertIs(board.cut((1, 0)), True)
        self.assertIs(board.is_done((1, 1)), False)

    def test_what_stands_behind_the_star_is_handed_in_by_name_alone(self):
        with self.assertRaises(TypeError):
            Board((0,), 1, (), ())


class Refused(unittest.TestCase):
    def place(self, cells=(0, 1), colours=2, groups=((0, 1),), turns=()):
        return place_of(self, Board, cells, colours, groups, turns=turns)

    def test_cells(self):
        no_cells = [thing for thing in ODD if not isinstance(thing, tuple)]
        for cells in (*no_cells, 5, (), (0,) * 10, [0, 1], (0, -1), (0, True), (False, 0), (0, None), ("0",), ((0,),)):
            self.assertEqual(self.place(cells=cells, groups=()), ("cells",), cells)
        for cells, colours in (((0, 3), 2), ((2,), 1), ((5,), 4), ((1000,), 4)):
            self.assertEqual(self.place(cells=cells, colours=colours, groups=()), ("cells",), cells)
        for cells in ((0,), (2,), (0,) * 9, (2,) * 9):
            self.assertEqual(Board(cells, 2, ()).start(), cells)

    def test_colours(self):
        for colours in (*ODD, 0, -1, 5, 100, (2,)):
            self.assertEqual(self.place(colours=colours), ("colours",), colours)
        for colours in (1, 2, 3, 4):
            self.assertEqual(len(Board((0,), colours, ()).nexts((0,))), colours)

    def test_groups(self):
        wrongs = [None, True, 0, "", "ab", [], {}, [(0, 1)], (0, 1), ((0, 1), None), ([0, 1],), ((1, 0),), ((0, 0),),
                  ((0, 1, 1),), ((-1, 0),), ((True,),), ((False, 1),), (("0",),), (((0,),),), ((0, 2),), ((2,),),
                  ((0,),) * 13, ((),) * 13, (None,)]
        for groups in wrongs:
            self.assertEqual(self.place(groups=groups), ("groups",), groups)
        for groups in ((), ((),) * 12, ((0,), (0, 1), (1,)), ((0, 1),) * 12):
            self.assertEqual(Board((0, 1), 2, groups).start(), (0, 1))

    def test_turns(self):
        wrongs = [None, True, 0, "", [], {}, [(1, 2)], (1, 2), ((1, 2),) * 4, ([1, 2],), ((1, 2), None), ((),),
                  ((1,),), ((1, 1),), ((2, 2),), ((1, 2, 3),), ((0, 1),), ((1, 3),), ((1, 2, 2),), ((-1, 2),),
                  ((True, 2),), (("1", 2),), (((1,), 2),), ((1, 2), (2, 1), (2,))]
        for turns in wrongs:
            self.assertEqual(self.place(turns=turns), ("turns",), turns)
        for turns in ((), ((1, 2),), ((2, 1),) * 3):
            self.assertEqual(Board((0, 1), 2, (), turns=turns).turnings(), len(turns))

    def test_each_by_itself_in_order(self):
        self.assertEqual(self.place(cells=5, colours=5, groups=5, turns=5), ("cells",))
        self.assertEqual(self.place(colours=5, groups=5, turns=5), ("colours",))
        self.assertEqual(self.place(groups=5, turns=5), ("groups",))
        self.assertEqual(self.place(turns=5), ("turns",))

    def test_by_itself_goes_ahead_of_against_the_others(self):
        self.assertEqual(self.place(cells=(0, 7), colours=5), ("colours",))
        self.assertEqual(self.place(cells=(0, 7), colours=True), ("colours",))
        self.assertEqual(self.place(cells=(0, 7), groups=((1, 0),)), ("groups",))
        self.assertEqual(self.place(cells=(0, 7), turns=[]), ("turns",))
        self.assertEqual(self.place(cells=(0, 7), turns=((1, 2),) * 4), ("turns",))
        self.assertEqual(self.place(cells=(0, 7), turns=((0, 1),)), ("turns",))
        self.assertEqual(self.place(groups=((0, 9),), turns=((1, "2"),)), ("turns",))

    def test_against_the_others_in_order(self):
        self.assertEqual(self.place(cells=(0, 3), groups=((0, 9),), turns=((1,),)), ("cells",))
        self.assertEqual(self.place(groups=((0, 9),), turns=((1,),)), ("groups",))
        self.assertEqual(self.place(turns=((1, 3),)), ("turns",))


if __name__ == "__main__":
    unittest.main()
