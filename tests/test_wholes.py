"""Whole numbers, standings by form, and the fixed values."""

import unittest

from seekways.wholes import MOST_ROWS, NEVER, WORDS, is_standing, is_whole
from tests.helpers import ODD


class Wholes(unittest.TestCase):
    def test_fixed_values(self):
        self.assertEqual(NEVER, -1)
        self.assertEqual(MOST_ROWS, 400)
        self.assertEqual(WORDS, ("standing", "name", "turn"))

    def test_whole_numbers(self):
        for number in (0, 1, -1, 12, 999, 1000, -1000, 10 ** 30):
            self.assertIs(is_whole(number), True, number)

    def test_no_whole_numbers(self):
        for thing in (*ODD, (0,), (1, 2)):
            self.assertIs(is_whole(thing), False, thing)

    def test_standings(self):
        for thing in ((0,), (999,), (0, 999), tuple(range(12)), (5,) * 12):
            self.assertIs(is_standing(thing), True, thing)

    def test_no_standings(self):
        for thing in (*ODD, 0, 1, -1, 999, 1000):
            self.assertIs(is_standing(thing), False, thing)

    def test_one_wrong_number_at_any_place(self):
        for many in (1, 2, 12):
            for at in range(many):
                for wrong in (-1, 1000, True, False, None, "1", (1,), [1]):
                    thing = (1,) * at + (wrong,) + (1,) * (many - at - 1)
                    self.assertIs(is_standing(thing), False, thing)

    def test_lengths(self):
        for many in range(16):
            self.assertIs(is_standing((0,) * many), 1 <= many <= 12, many)


if __name__ == "__main__":
    unittest.main()
