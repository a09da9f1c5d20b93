"""Rows of ways: turns and shares, limits, steps, and parts that are none."""

import unittest

from seekways.boards import Board
from seekways.errors import BadWay, Broken, TooWide
from seekways.joined import Joined
from seekways.tasks import Task
from seekways.told import Told
from seekways.ways import WAYS, Way
from seekways.wholes import WORDS
from tests.givens import given_task
from tests.going import joined_look, refused_step, refuses_numbers, steps_till_over
from tests.helpers import ODD, Watched, row
from tests.makers import kept_told
from tests.picking import expected
from tests.reckoned import face, fields
from tests.samples import ENDED, NET, TOLD
from tests.test_picks import FORK

# A start that leads to eight rows, each of which leads to one more.
FAN = Told((row(*[(1, at) for at in range(1, 9)]), *[row((1, 9 + at), name=at) for at in range(1, 9)],
            *[row(name=at) for at in range(9, 18)]))


class Turns(unittest.TestCase):
    def test_at_first(self):
        joined = Joined(FORK, (("deep", 2), ("deepen", 1)))
        self.assertEqual((joined.turn(), joined.limits(), joined.is_over()), ((0, 0), (None, 2), False))
        self.assertEqual((joined.book().alike(), joined.book().known(), joined.book().back_told()), ("name", 1, None))
        self.assertEqual(Joined(FORK, (("deep", 2),), alike="turn").book().alike(), "turn")

    def test_shares(self):
        joined = Joined(FAN, (("wide", 2), ("deep", 1), ("wide", 3)))
        told = []
        for again in range(8):
            told.append((joined.turn(), joined.step()))
        # The start, then 1; deep takes the row that came last, behind 1; then 2, 3, 4 by the third.
        self.assertEqual(told, [
            ((0, 0), ("opened", 0)), ((0, 1), ("opened", 1)), ((1, 0), ("opened", 9)), ((2, 0), ("opened", 2)),
            ((2, 1), ("opened", 3)), ((2, 2), ("opened", 4)), ((0, 0), ("opened", 5)), ((0, 1), ("opened", 6)),
        ])
        self.assertEqual(joined.turn(), (1, 0))

    def test_a_turn_goes_on_at_once(self):
        joined = Joined(FAN, (("wide", 1), ("wide", 1), ("wide", 1), ("wide", 1)))
        turns = []
        for again in range(6):
            turns.append(joined.turn())
            joined.step()
        self.assertEqual(turns, [(0, 0), (1, 0), (2, 0), (3, 0), (0, 0), (1, 0)])
        joined = Joined(FAN, (("wide", 3),))
        turns = []
        for again in range(5):
            turns.append(joined.turn())
            joined.step()
        self.assertEqual(turns, [(0, 0), (0, 1), (0, 2), (0, 0), (0, 1)])

    def test_the_greatest_share(self):
        joined = Joined(FAN, (("wide", 20), ("deep", 20)))
        joined.go(17)
        self.assertEqual(joined.turn(), (0, 17))

    def test_limits_of_two_beside_each_other(self):
        # Rows 1 and 2 are reached for 1 and 5; behind 1 comes 3, for 4 more.
        task = Told((row((1, 1), (5, 2)), row((4, 3), name=1), row(name=2), row(name=3)))
        joined = Joined(task, (("deepen", 1), ("deepen", 2)))
        seen = []
        while not joined.is_over():
            said = joined.step()
            seen.append((said, joined.limits(), joined.turn()))
        self.assertEqual(seen, [
            (("opened", 0), (0, 0), (1, 0)), (("opened", 1), (0, 1), (1, 1)), (("opened", 3), (0, 5), (0, 0)),
            (("opened", 2), (5, 5), (1, 0)),
        ])

    def test_a_limit_each_by_its_place(self):
        joined = Joined(FORK, (("wide", 1), ("deepen", 1), ("costs", 1), ("deepen", 1)))
        self.assertEqual(joined.limits(), (None, 2, None, 2))
        joined.go(1000)
        self.assertEqual([limit is None for limit in joined.limits()], [True, False, True, False])

    def test_every_step_against_numbers_reckoned_otherwise(self):
        tasks = [FORK, FAN, NET, *[kept_told(seed) for seed in range(30)], *[given_task(seed) for seed in range(30)]]
        for seed, task in enumerate(tasks):
            parts = tuple((WAYS[(seed + at * 5) % 6], 1 + (seed + at) % 3) for at in range(1 + seed % 4))
            self.go(task, parts, WORDS[seed % 3])

    def go(self, task, parts, alike):
        joined = Joined(task, parts, alike=alike)
        limits = [task.bound(task.start()) if word == "deepen" else None for word, share in parts]
        order = [at for at, (word, share) in enumerate(parts) for step in range(share)]
        many = 0
        while not joined.is_over():
            at = order[many % len(order)]
            self.assertEqual(joined.turn()[0], at)
            number, limits[at] = expected(joined.book(), task, parts[at][0], limits[at])
            self.assertEqual(joined.step(), ("opened", number))
            self.assertEqual(joined.limits(), tuple(limits))
            many += 1
        self.assertEqual(joined.step(), ("over",))


class Beside(unittest.TestCase):
    def test_a_row_of_one_way_is_that_way(self):
        for task in (FORK, TOLD, NET, FAN, *[kept_told(seed) for seed in range(15)]):
            for word in WAYS[:6]:
                for share in (1, 3):
                    joined, way = Joined(task, ((word, share),)), Way(task, word)
                    while not way.is_over():
                        self.assertEqual(joined.step(), way.step())
                        self.assertEqual(joined.limits(), (way.limit(),))
                        self.assertEqual(face(joined.book()), face(way.book()))
                    self.assertIs(joined.is_over(), True)

    def test_rows_opened_by_the_book_itself_take_no_turn(self):
        joined = Joined(FAN, (("wide", 2), ("deep", 1)))
        joined.step()
        joined.book().open_row(8)
        self.assertEqual(joined.turn(), (0, 1))
        joined.book().hint(((1,), (2,)))
        self.assertEqual((joined.turn(), joined.step(), joined.turn()), ((0, 1), ("opened", 3), (1, 0)))
        self.assertEqual(joined.step()[0], "opened")
        self.assertEqual(joined.turn(), (0, 0))

    def test_behind_the_end(self):
        for task in (FORK, Task(), Told((row(done=True),)), Told((row(cut=True),))):
            joined = Joined(Watched(task), (("deepen", 2), ("wide", 1)))
            joined.go(1000)
            before = joined_look(joined)
            self.assertEqual([joined.step(), joined.go(0), joined.go(9), joined.step()], [("over",), 0, 0, ("over",)])
            self.assertEqual(joined_look(joined), before)

    def test_going_on(self):
        one, other = Joined(FAN, (("wide", 2), ("deep", 3))), Joined(FAN, (("wide", 2), ("deep", 3)))
        self.assertEqual((one.go(0), one.turn()), (0, (0, 0)))
        self.assertEqual([one.go(1), one.go(4)], [1, 4])
        for again in range(5):
            other.step()
        self.assertEqual(joined_look(one), joined_look(other))
        self.assertEqual(one.go(1000), len(steps_till_over(self, other, 50)))
        self.assertEqual(joined_look(one), joined_look(other))

    def test_going_on_by_anything_else(self):
        joined = Joined(FAN, (("wide", 2), ("deepen", 3)))
        refuses_numbers(self, joined, joined_look)
        joined.go(3)
        refuses_numbers(self, joined, joined_look)
        joined.go(1000)
        refuses_numbers(self, joined, joined_look)


class Refused(unittest.TestCase):
    def check(self, what, task, parts, **named):
        for again in range(2):
            with self.assertRaises(BadWay) as caught:
                Joined(task, parts, **named)
            self.assertEqual(caught.exception.word, what)

    def test_parts_that_are_none(self):
        right = ("deep", 1)
        wrongs = [
            "deep", "deep 1", 0, right, [right], {right: 1}, (right,) * 5, (right, None), (right, "deep"), (right, ()),
            (right, ("deep",)), (right, ("deep", 1, 1)), (["deep", 1],), (("deep", 0),), (("deep", 21),),
            (("deep", -1),),
            (("deep", True),), (("deep", False),), (("deep", None),), (("deep", "1"),), (("deep", (1,)),),
            ((1, "deep"),),
            (("ends", 1),), (right, ("ends", 1)), (("no", 1),), (("Deep", 1),), (("", 1),), ((None, 1),),
            ((["deep"], 1),),
            ((("deep",), 1),), (({}, 1),), ((0, 1),), (("standing", 1),), (("deep", [1]),), (("deep", {}),),
        ]
        for parts in (*ODD, *wrongs):
            self.check(("parts",), FORK, parts)
            self.check(("parts",), ENDED, parts, alike="standing")

    def test_parts_that_are_right(self):
        for word in WAYS[:6]:
            for share in (1, 2, 20):
                for many in (1, 2, 3, 4):
                    self.assertEqual(Joined(FORK, ((word, share),) * many).turn(), (0, 0))

    def test_the_books_word(self):
        for alike in (*ODD, 0, "no", "Name", "deep", "parts", ("name",)):
            self.check((alike,), FORK, (("deep", 1),), alike=alike)

    def test_parts_go_ahead_of_the_books_word_and_of_a_break(self):
        self.check(("parts",), FORK, (), alike="no")
        self.check(("parts",), FORK, (("ends", 1),), alike="name")
        self.check(("parts",), Told((row(done=True, bound=2),)), None, alike=None)
        self.check((None,), Told((row(done=True, bound=2),)), (("deep", 1),), alike=None)

    def test_a_break_as_it_is_made(self):
        with self.assertRaises(Broken) as caught:
            Joined(Told((row(done=True, bound=2),)), (("deep", 1),))
        self.assertEqual(fields(caught.exception), ("bound", (0,), (0,)))

    def test_a_break_at_a_step(self):
        task = Told((row((2, 1)), row((0, 2), name=1, bound=1), row(name=2)))
        joined = Joined(task, (("wide", 1), ("deepen", 2)))
        joined.step()
        before = (joined.turn(), joined.limits(), face(joined.book()))
        self.assertEqual(fields(refused_step(self, Broken, joined.go, 5)), ("bound", (1,), (2,)))
        self.assertEqual((joined.turn(), joined.limits(), face(joined.book())), before)
        self.assertEqual(before[:2], ((1, 0), (None, 0)))
        self.assertEqual((joined.is_over(), joined.step(), joined.go(4)), (True, ("over",), 0))
        self.assertEqual(joined.book().told(), ("broken", "bound", (1,), (2,)))

    def test_too_wide(self):
        joined = Joined(Board((0,) * 9, 4, ()), (("wide", 3), ("costs", 7)), alike="standing")
        self.assertEqual(refused_step(self, TooWide, joined.go, 1000).most, 400)
        self.assertEqual((len(joined.book().openings()), joined.turn()), (99, (1, 6)))
        before = joined_look(joined)
        refused_step(self, TooWide, joined.step)
        self.assertEqual(joined_look(joined), before)


if __name__ == "__main__":
    unittest.main()
