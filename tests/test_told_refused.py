"""Told tasks: what is refused, and with which place."""

import unittest

from seekways.told import Told
from tests.helpers import ODD, place_of, row

TWO = (row((1, 1)), row(done=True))
NO_TUPLES = (None, True, False, 0, 1, -1, "", "ab", [], [0], {}, {0: 1}, [()], [[]])
NO_TRUTHS = (None, 0, 1, -1, "", "True", (), (True,), [], {})
# None of these is a whole number from 0 on.
NO_COUNTS = (True, False, None, -1, "0", "", (0,), [0], {}, ())


class Rows(unittest.TestCase):
    def place(self, rows):
        return place_of(self, Told, rows)

    def test_rows_that_are_no_such_tuple(self):
        for rows in (*NO_TUPLES, list(TWO), (), (row(),) * 25, (row(),) * 1000):
            self.assertEqual(self.place(rows), (), rows)

    def test_rows_by_number_are_made(self):
        for many in (1, 24):
            self.assertEqual(len(Told((row(),) * many)), many)

    def test_too_many_rows_go_ahead_of_a_wrong_row(self):
        self.assertEqual(self.place((row(), None) + (row(),) * 23), ())

    def test_a_row_that_is_no_tuple_of_five(self):
        good = row()
        for wrong in (*ODD, list(good), good[:4], (*good, 0), (good,), ((), False, 0, 0)):
            self.assertEqual(self.place((wrong,)), ("row", 0), wrong)
            self.assertEqual(self.place((good, wrong)), ("row", 1), wrong)

    def test_the_first_wrong_row_is_told(self):
        good = row()
        for first in range(24):
            for second in (first, 23):
                rows = [good] * 24
                rows[second] = row(name=100)
                rows[first] = row(bound=-1)
                self.assertEqual(self.place(tuple(rows)), ("row", first))

    def test_the_first_wrong_row_whatever_part_of_it_is_wrong(self):
        self.assertEqual(self.place((row(cut=0), row((1, 7)))), ("row", 0))
        self.assertEqual(self.place((row(), row(cut=0), 5)), ("row", 1))


class Parts(unittest.TestCase):
    def refused(self, wrong):
        self.assertEqual(place_of(self, Told, (row(), wrong, row())), ("row", 1), wrong)

    def made(self, good):
        self.assertEqual(Told((row(), good, row())).table[1], good)

    def test_nexts(self):
        for nexts in NO_TUPLES:
            self.refused((nexts, False, 0, 0, False))
        self.refused(([(1, 1)], False, 0, 0, False))
        self.refused(((1, 1), False, 0, 0, False))
        self.refused(row(*[(1, 1)] * 9))
        self.made(row(*[(1, 1)] * 8))
        self.made(row())

    def test_a_pair(self):
        for pair in (*NO_TUPLES, [1, 1], (), (1,), (1, 1, 1), (1, (1,)), ((1, 1),)):
            self.refused(row(pair))
            self.refused(row((1, 1), pair))
            self.refused(row(pair, (1, 1)))

    def test_a_cost(self):
        for cost in (*NO_COUNTS, 1001, 10 ** 20):
            self.refused(row((cost, 1)))
        for cost in (0, 1, 999, 1000):
            self.made(row((cost, 1)))

    def test_a_rows_number(self):
        for number in (*NO_COUNTS, 3, 24, 1000):
            self.refused(row((1, number)))
        for number in (0, 1, 2):
            self.made(row((1, number)))

    def test_done_and_cut(self):
        for thing in NO_TRUTHS:
            self.refused(row(done=thing))
            self.refused(row(cut=thing))
        for truth in (True, False):
            self.made(row(done=truth))
            self.made(row(cut=truth))

    def test_name(self):
        for name in (*NO_COUNTS, 100, 999):
            self.refused(row(name=name))
        for name in (0, 1, 98, 99):
            self.made(row(name=name))

    def test_bound(self):
        for bound in (*NO_COUNTS, 100001, 10 ** 20):
            self.refused(row(bound=bound))
        for bound in (0, 1, 99999, 100000):
            self.made(row(bound=bound))


class Turns(unittest.TestCase):
    def place(self, turns):
        return place_of(self, Told, TWO, turns=turns)

    def test_no_tuple(self):
        for turns in (*NO_TUPLES, [(0, 1)]):
            self.assertEqual(self.place(turns), ("turn", 0), turns)

    def test_more_than_three(self):
        for many in (4, 5, 100):
            self.assertEqual(self.place(((0, 1),) * many), ("turn", 3), many)

    def test_none_to_three_are_made(self):
        for many in range(4):
            self.assertEqual(Told(TWO, turns=((1, 1),) * many).turnings(), many)

    def test_the_first_wrong_one(self):
        wrongs = [*NO_TUPLES, [0, 1], (), (0,), (0, 1, 0), (0, 2), (-1, 0), (True, 0), (0, False), ("0", 1),
                  ((0,), 1), (None, 0), (0, 24)]
        for wrong in wrongs:
            for at in range(3):
                turns = [(0, 1)] * 3
                turns[at] = wrong
                self.assertEqual(self.place(tuple(turns)), ("turn", at), wrong)
        self.assertEqual(self.place(((0, 1), (0,), (2, 2))), ("turn", 1))


class Ends(unittest.TestCase):
    ROWS = (row(),) * 4
    HEADS = ((),) * 4

    def place(self, ends, heads=HEADS):
        return place_of(self, Told, self.ROWS, ends=ends, heads=heads)

    def test_no_rows_numbers(self):
        wrongs = [thing for thing in NO_TUPLES if thing is not None]
        wrongs += [[0, 1], (True,), (False,), (0, True), (-1,), (4,), (0, 4), (None,), ("1",), ((0,),), ([],)]
        for ends in wrongs:
            self.assertEqual(self.place(ends), ("ends",), ends)
            self.assertEqual(self.place(ends, heads=None), ("ends",), ends)

    def test_not_rising_or_twice(self):
        for ends in ((1, 0), (0, 0), (0, 2, 1), (0, 1, 1), (3, 2, 1, 0), (0, 1, 2, 3, 3)):
            self.assertEqual(self.place(ends), ("ends",), ends)

    def test_made(self):
        for ends in ((), (0,), (3,), (0, 3), (0, 1, 2, 3)):
            self.assertEqual(Told(self.ROWS, ends=ends, heads=self.HEADS).targets, ends)

    def test_ends_without_heads(self):
        for ends in ((), (0,)):
            self.assertEqual(self.place(ends, heads=None), ("heads",))

    def test_heads_without_ends(self):
        for heads in (self.HEADS, (), 0, False, []):
            self.assertEqual(self.place(None, heads=heads), ("heads",))


class Heads(unittest.TestCase):
    def place(self, heads):
        return place_of(self, Told, TWO, ends=(1,), heads=heads)

    def test_no_tuple_of_as_many_tuples(self):
        for heads in (*NO_TUPLES, (), ((),), ((), (), ()), [(), ()], ((), []), ([], ()), ((), None), ((), 0)):
            self.assertEqual(self.place(heads), ("heads",), heads)

    def test_pairs(self):
        for pair in (*NO_TUPLES, [1, 1], (), (1,), (1, 1, 1), (1, (0,))):
            self.assertEqual(self.place(((), (pair,))), ("heads",), pair)
            self.assertEqual(self.place((((1, 1), pair), ())), ("heads",), pair)

    def test_costs_and_numbers(self):
        for cost in (*NO_COUNTS, 1001):
            self.assertEqual(self.place((((cost, 0),), ())), ("heads",), cost)
        for number in (*NO_COUNTS, 2, 24):
            self.assertEqual(self.place(((), ((0, number),))), ("heads",), number)
        for pair in ((0, 0), (1000, 1)):
            heads = ((pair,), (pair, pair))
            self.assertEqual(Told(TWO, ends=(1,), heads=heads).heads, heads)

    def test_at_most_two_hundred(self):
        self.assertEqual(self.place((((1, 0),) * 201, ())), ("heads",))
        heads = (((1, 0),) * 200, ((1, 1),) * 200)
        self.assertEqual(Told(TWO, ends=(1,), heads=heads).heads, heads)


class Order(unittest.TestCase):
    def place(self, rows, **named):
        return place_of(self, Told, rows, **named)

    def test_each_goes_ahead_of_what_stands_behind_it(self):
        bad = {"turns": ((0,),), "ends": (5,), "heads": 7}
        self.assertEqual(self.place([], **bad), ())
        self.assertEqual(self.place((), **bad), ())
        self.assertEqual(self.place((row(), row(done=1)), **bad), ("row", 1))
        self.assertEqual(self.place(TWO, **bad), ("turn", 0))
        self.assertEqual(self.place(TWO, ends=(5,), heads=7), ("ends",))
        self.assertEqual(self.place(TWO, turns=((0, 1), (1, 0), 3), heads=7), ("turn", 2))
        self.assertEqual(self.place(TWO, turns=((0, 1),) * 4, ends=(1, 0)), ("turn", 3))
        self.assertEqual(self.place(TWO, turns=5, ends=(1, 0)), ("turn", 0))
        self.assertEqual(self.place((row(name=100), row()), ends=(5,)), ("row", 0))
        self.assertEqual(self.place(TWO, ends=(0,)), ("heads",))


if __name__ == "__main__":
    unittest.main()
