"""Backs: when one is right for a task."""

import unittest

from seekways.backs import back_holds
from seekways.book import Book
from seekways.nets import Net
from seekways.rests import Rest
from seekways.tasks import Task
from seekways.told import Told
from seekways.wholes import NEVER
from tests.helpers import ODD, Watched, row
from tests.makers import kept_told
from tests.samples import ENDED, NET, TOLD

# Distances to 3 in NET: 2 is 1 far, 1 is 4, 0 is 6, 4 is 1.
WHOLE = (NEVER, (((3,), 0), ((2,), 1), ((4,), 1), ((1,), 4), ((0,), 6)))
HALF = (4, (((3,), 0), ((2,), 1), ((4,), 1)))
TWO = Net(0, (((2, 1), (3, 2)), (), ()), (1, 2))


class Right(unittest.TestCase):
    def test_settled_to_any_radius(self):
        for back in (WHOLE, HALF, (0, ()), (0, (((3,), 0),)), (1, (((3,), 0),)), (4, WHOLE[1][:4]), (6, WHOLE[1])):
            self.assertIs(back_holds(Watched(NET), back), True, back)

    def test_in_any_order(self):
        self.assertIs(back_holds(NET, (NEVER, WHOLE[1][::-1])), True)
        self.assertIs(back_holds(NET, (4, HALF[1][::-1])), True)

    def test_a_radius_less_than_it_could_be(self):
        for radius in (1, 2, 3):
            self.assertIs(back_holds(NET, (radius, HALF[1])), True, radius)

    def test_distances_less_than_they_could_be(self):
        self.assertIs(back_holds(NET, (NEVER, (*WHOLE[1][:4], ((0,), 5)))), True)
        self.assertIs(back_holds(NET, (1, (((3,), 0), ((2,), 0), ((4,), 1)))), True)

    def test_without_ends(self):
        none = Net(0, (((1, 0),),), ())
        self.assertIs(back_holds(none, (NEVER, ())), True)
        self.assertIs(back_holds(none, (0, ())), True)
        self.assertIs(back_holds(none, (7, ())), True)

    def test_all_ends_stand_in_it_or_the_radius_is_0(self):
        self.assertIs(back_holds(TWO, (NEVER, (((1,), 0), ((2,), 0), ((0,), 2)))), True)
        self.assertIs(back_holds(TWO, (2, (((1,), 0), ((2,), 0)))), True)
        self.assertIs(back_holds(TWO, (0, (((1,), 0),))), True)
        self.assertIs(back_holds(TWO, (0, (((2,), 0),))), True)
        self.assertIs(back_holds(TWO, (2, (((1,), 0),))), False)
        self.assertIs(back_holds(TWO, (NEVER, (((1,), 0), ((0,), 2)))), False)
        self.assertIs(back_holds(TWO, (2, (((1,), 0), ((2,), 1)))), False)

    def test_other_kinds_of_tasks(self):
        self.assertIs(back_holds(ENDED, (NEVER, (((3,), 0), ((2,), 1), ((1,), 1), ((0,), 3)))), True)
        self.assertIs(back_holds(Rest(ENDED, (2,)), (1, (((3,), 0),))), True)
        for task in (TOLD, Task(), Rest(TOLD, (1,))):
            for back in ((0, ()), (NEVER, ()), (0, (((3,), 0),))):
                self.assertIs(back_holds(task, back), False)

    def test_those_of_books(self):
        for seed in range(80):
            task = kept_told(seed)
            if task.ends() is not None:
                book = Book(task, alike="standing", back=True)
                self.assertIs(back_holds(task, book.back_told()), True)
                while book.open_back() is not None:
                    self.assertIs(back_holds(Watched(task), book.back_told()), True)


class Wrong(unittest.TestCase):
    def wrong(self, back, task=NET):
        self.assertIs(back_holds(task, back), False, back)

    def test_a_distance_that_is_too_great(self):
        for at, (standing, distance) in enumerate(WHOLE[1]):
            self.wrong((NEVER, (*WHOLE[1][:at], (standing, distance + 1), *WHOLE[1][at + 1:])))

    def test_a_standing_left_out(self):
        for at in range(5):
            pairs = WHOLE[1][:at] + WHOLE[1][at + 1:]
            self.wrong((NEVER, pairs))
            self.wrong((7, pairs))

    def test_a_radius_that_is_too_great(self):
        self.wrong((5, HALF[1]))
        self.wrong((NEVER, HALF[1]))
        self.wrong((1, ()))
        self.wrong((NEVER, ()))

    def test_a_distance_beyond_the_radius(self):
        self.wrong((3, WHOLE[1][:4]))
        self.wrong((0, (((3,), 0), ((2,), 1))))
        self.wrong((5, WHOLE[1]))

    def test_a_standing_twice(self):
        self.wrong((NEVER, WHOLE[1] + (((3,), 0),)))
        self.wrong((NEVER, WHOLE[1] + (((0,), 7),)))
        self.wrong((0, (((3,), 0), ((3,), 0))))

    def test_a_standing_that_is_none_of_the_task(self):
        for standing in ((5,), (0, 0), (999,), (True,), [3], 3, None, "3", ()):
            self.wrong((0, ((standing, 0),)))
            self.wrong((NEVER, WHOLE[1] + ((standing, 9),)))

    def test_a_break_ahead(self):
        rows = (row((2, 1)), row(done=True))
        for heads in ((((1, 0),), ((2, 0),)), ((), ((2, 0), (1, 0))), ((), ((2, 0), (0, 1)))):
            self.wrong((NEVER, (((1,), 0), ((0,), 0))), Told(rows, ends=(1,), heads=heads))
        right = Told(rows, ends=(1,), heads=((), ((2, 0),)))
        self.assertIs(back_holds(right, (NEVER, (((1,), 0), ((0,), 0)))), True)
        high = Told((row((2, 1), bound=3), row(done=True)), ends=(1,), heads=((), ((2, 0),)))
        self.wrong((2, (((1,), 0),)), high)

    def test_kinds(self):
        wrongs = [
            (True, ()), (False, ()), (-2, ()), (None, ()), ("0", ()), ((0,), ()), (0, []), (0, None), (0, 0), (0, {}),
            (0, [((3,), 0)]), (0, ([(3,), 0],)), (0, (((3,),),)), (0, (((3,), 0, 0),)), (0, (((3,), False),)),
            (0, (((3,), None),)), (0, (((3,), -1),)), (0, (((3,), "0"),)), (0, (None,)), (0, (3,)), [0, ()], (0,),
            (0, (), ()), ((), 0), (NEVER, (*WHOLE[1][:4], ((0,), NEVER))), (1, (((3,), False),)),
        ]
        for back in wrongs:
            self.wrong(back)
        for thing in (*ODD, 0, 5, WHOLE[1], list(WHOLE)):
            self.wrong(thing)

    def test_400_pairs_and_401(self):
        class Wide(Task):
            def has(self, thing):
                return isinstance(thing, tuple) and len(thing) == 1 and 0 <= thing[0] < 500

            def ends(self):
                return tuple((at,) for at in range(500))

            def is_done(self, standing):
                return True

        pairs = tuple(((at,), 0) for at in range(500))
        self.assertIs(back_holds(Wide(), (0, pairs[:400])), True)
        self.assertIs(back_holds(Wide(), (0, pairs[:401])), False)

    def test_one_thing_otherwise_in_those_of_books(self):
        for seed in range(60):
            task = kept_told(seed)
            if task.ends() is None:
                continue
            book = Book(task, alike="standing", back=True)
            while book.open_back() is not None:
                radius, pairs = book.back_told()
                for other in ((True, pairs), (radius, list(pairs)), [radius, pairs], (radius, pairs, None)):
                    self.wrong(other, task)
                self.wrong((radius, pairs + pairs[:1]), task)
                self.wrong((radius, pairs + (((99,), 0),)), task)


if __name__ == "__main__":
    unittest.main()
