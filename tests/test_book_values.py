"""The book's values: lower, upper, reached, base, bound, best, answer, paper, told."""

import random
import unittest

from seekways.answers import cost_of, is_answer, way_of
from seekways.boards import Board
from seekways.book import Book
from seekways.errors import Broken
from seekways.nets import Net
from seekways.orders import Orders
from seekways.papers import claim, paper_holds
from seekways.rooms import Rooms
from seekways.told import Told
from seekways.wholes import NEVER
from tests import reckoned
from tests.helpers import Watched, row
from tests.makers import answers_of, broken_told, kept_told, least_cost
from tests.samples import TOLD, kept


def opened(task, *numbers, alike="name"):
    book = Book(task, alike=alike)
    for number in numbers:
        book.open_row(number)
    return book


def lows(book):
    return [book.lower(number) for number in range(book.known())]


def highs(book):
    return [book.upper(number) for number in range(book.known())]


class ByHand(unittest.TestCase):
    def test_a_start_that_waits(self):
        book = Book(TOLD)
        self.assertEqual((book.base(0), book.lower(0), book.upper(0), book.reached(0)), (3, 3, None, 0))
        self.assertEqual((book.bound(), book.best(), book.answer()), (3, None, None))
        self.assertEqual(book.told(), ("open", 3, None))
        self.assertEqual(book.paper(), ("name", (((0,), 3, ("bound",)),), None))

    def test_a_start_that_is_done(self):
        book = Book(Told((row((1, 0), done=True),)))
        self.assertEqual((book.lower(0), book.upper(0), book.reached(0)), (0, (0, 0), 0))
        self.assertEqual((book.bound(), book.best(), book.answer()), (0, 0, ()))
        self.assertEqual(book.told(), ("best", 0))
        self.assertEqual(book.paper(), ("name", (((0,), 0, ("done",)),), None))
        self.assertEqual(book.progress(), (1, 0))

    def test_a_start_that_is_cut(self):
        book = Book(Told((row((1, 0), cut=True),)), alike="standing")
        self.assertEqual((book.lower(0), book.upper(0), book.best(), book.answer()), (NEVER, None, None, None))
        self.assertEqual(book.told(), ("never",))
        self.assertEqual(book.paper(), ("standing", (((0,), NEVER, ("cut",)),), None))

    def test_told_by_turn(self):
        book = opened(TOLD, 0, alike="turn")
        self.assertEqual(lows(book), [3, 1, 1, 2])
        self.assertEqual(highs(book), [None] * 4)
        self.assertEqual([book.reached(at) for at in range(4)], [0, 2, 2, 1])
        self.assertEqual(book.told(), ("open", 3, None))
        book.open_row(1)
        self.assertEqual(lows(book), [3, 1, 1, 2, 0])
        self.assertEqual(highs(book), [(3, 2), (1, 1), (1, 1), None, (0, 0)])
        self.assertEqual(book.told(), ("best", 3))
        self.assertEqual(book.answer(), (0, 0))
        self.assertEqual(book.paper(), ("turn", (
            ((0,), 3, ("next",)), ((1,), 1, ("next",)), ((2,), 1, ("like", 1)), ((4,), 2, ("bound",)),
            ((3,), 0, ("done",))), None))

    def test_an_answer_that_is_not_the_best_yet(self):
        task = Net(0, (((9, 2), (1, 1)), ((1, 2),), ()), (2,))
        book = opened(task, 0)
        self.assertEqual(book.told(), ("open", 1, 9))
        self.assertEqual(book.answer(), (0,))
        book.open_row(2)
        self.assertEqual(book.told(), ("best", 2))
        self.assertEqual(book.answer(), (1, 0))

    def test_bounds_of_waiting_rows(self):
        task = Told((row((1, 1), (4, 2), bound=2), row((0, 2), bound=3), row((7, 3), bound=7), row(done=True)))
        book = opened(task, 0, alike="standing")
        self.assertEqual([book.base(at) for at in range(3)], [2, 3, 7])
        self.assertEqual(book.bound(), 4)
        book.open_row(1)
        self.assertEqual(lows(book), [8, 7, 7])
        book.open_row(2)
        self.assertEqual(lows(book), [8, 7, 7, 0])
        self.assertEqual(book.told(), ("best", 8))

    def test_rows_that_only_lead_round(self):
        for cost in (0, 1):
            task = Told((row((cost, 1)), row((cost, 2), (cost, 1)), row((cost, 0), (5, 3)), row()))
            book = opened(task, 0, 1, 2, alike="standing")
            self.assertEqual(lows(book), [2 * cost + 5, cost + 5, 5, 0])
            book.open_row(3)
            self.assertEqual(lows(book), [NEVER] * 4)
            self.assertEqual(book.told(), ("never",))
            self.assertEqual(claim(book.paper()), NEVER)
            self.assertIs(paper_holds(task, book.paper()), True)

    def test_rounds_of_cost_0_beside_a_way_out(self):
        task = Told((row((0, 1), (0, 0)), row((0, 0), (0, 2)), row((0, 1), (3, 3)), row(done=True)))
        book = opened(task, 0, 1, 2, alike="standing")
        self.assertEqual(lows(book), [3, 3, 3, 0])
        self.assertEqual(highs(book), [(3, 3), (3, 2), (3, 1), (0, 0)])
        self.assertEqual(book.answer(), (0, 1, 1))

    def test_fewer_steps_go_first_among_equal_costs(self):
        task = Told((row((0, 1), (2, 3)), row((1, 2)), row((1, 3)), row(done=True)))
        book = opened(task, 0, 1, 3, alike="standing")
        self.assertEqual(book.upper(0), (2, 1))
        self.assertEqual(book.answer(), (1,))
        dearer = Told((row((0, 1), (3, 3)), row((1, 2)), row((1, 3)), row(done=True)))
        book = opened(dearer, 0, 1, 3, alike="standing")
        self.assertEqual(book.upper(0), (2, 3))
        self.assertEqual(book.answer(), (0, 0, 0))

    def test_the_first_step_that_gives_the_value(self):
        task = Told((row((2, 1), (1, 1), (1, 2), (1, 1)), row(done=True), row(done=True)))
        self.assertEqual(opened(task, 0).answer(), (1,))

    def test_reached_by_ways_that_come_later(self):
        task = Told((row((9, 1), (1, 2)), row(name=1), row((2, 1), (0, 0), name=2)))
        book = opened(task, 0)
        self.assertEqual([book.reached(at) for at in range(3)], [0, 9, 1])
        book.open_row(2)
        self.assertEqual([book.reached(at) for at in range(3)], [0, 3, 1])

    def test_reached_through_likeness(self):
        # Row 3 is like row 1 and leads there for 0.
        task = Told((row((9, 1), (1, 2)), row(name=5), row((2, 3), name=2), row(name=5)))
        book = opened(task, 0, 2)
        self.assertEqual(book.state_of(3), ("like", 1))
        self.assertEqual([book.reached(at) for at in range(4)], [0, 3, 1, 3])

    def test_like_rows_have_what_theirs_has(self):
        book = opened(Rooms((2, 3), 2, 3), 0, 1)
        self.assertEqual(lows(book), [2, 1, 1, 0])
        self.assertEqual(highs(book), [(2, 2), (1, 1), (1, 1), (0, 0)])
        self.assertEqual([book.base(at) for at in range(4)], [2, 1, 1, 0])


class AlongLikeness(unittest.TestCase):
    def test_the_step_with_the_same_cost_and_label(self):
        # Row 1 waits, 2 is like it; the best goes through 2, whose nexts stand in another order.
        task = Told((
            row((9, 1), (1, 2)),
            row((4, 3), (1, 4), (1, 5), name=1),
            row((1, 5), (1, 6), (4, 3), name=1),
            row(done=True, name=3), row((0, 3), name=4), row(name=5), row((0, 3), name=4),
        ))
        book = Book(task)
        book.open_row(0)
        self.assertEqual(book.state_of(2), ("like", 1))
        book.open_row(1)
        book.open_row(book.number_of((4,)))
        self.assertEqual(book.upper(0), (2, 3))
        self.assertEqual(book.answer(), (1, 1, 0))
        self.assertEqual(way_of(task, book.answer()), ((0,), (2,), (6,), (3,)))

    def test_the_first_of_several(self):
        task = Told((
            row((9, 1), (1, 2)), row((3, 3), (2, 4), (2, 5), name=1), row((2, 5), (3, 3), (2, 4), name=1),
            row(done=True, name=3), row(done=True, name=4), row(done=True, name=4),
        ))
        book = opened(task, 0, 1)
        self.assertEqual(book.answer(), (1, 0))
        self.assertEqual(way_of(task, book.answer())[-1], (5,))

    def test_boards_by_turn(self):
        board = Board((0, 0, 0), 3, ((0, 1), (1, 2), (0, 2)), turns=((2, 3, 1), (2, 1, 3)))
        book = Book(board, alike="turn")
        while book.told()[0] == "open":
            book.open_row(book.waiting()[0])
        self.assertEqual(book.told(), ("best", 3))
        self.assertIs(is_answer(board, book.answer()), True)

    def test_answers_of_rooms_by_name(self):
        task = Rooms((3, 2, 4, 1), 3, 5)
        book = Book(task)
        while book.waiting():
            book.open_row(book.waiting()[-1])
        self.assertEqual(book.told(), ("best", 2))
        self.assertEqual(cost_of(task, book.answer()), 2)


class AgainstAllWays(unittest.TestCase):
    def check(self, book, task):
        """All values held against those over all ways; the answer, and the paper."""
        for number in range(book.known()):
            self.assertEqual(book.base(number), task.bound(book.standing_of(number)))
            self.assertEqual(book.lower(number), reckoned.lower(book, task, number))
            self.assertEqual(book.upper(number), reckoned.upper(book, task, number))
            self.assertEqual(book.reached(number), reckoned.reached(book, task, number))
        self.assertEqual(book.bound(), book.lower(0))
        high = book.upper(0)
        self.assertEqual(book.best(), None if high is None else high[0])
        self.assertIs(paper_holds(task, book.paper()), True)
        self.assertEqual(claim(book.paper()), book.bound())
        self.check_told(book)

    def check_told(self, book):
        told = book.told()
        if book.bound() == NEVER:
            self.assertEqual(told, ("never",))
        elif book.best() == book.bound():
            self.assertEqual(told, ("best", book.best()))
        else:
            self.assertEqual(told, ("open", book.bound(), book.best()))

    def check_answer(self, book, task):
        steps = book.answer()
        if book.best() is None:
            self.assertIsNone(steps)
        else:
            self.assertIs(is_answer(task, steps), True)
            self.assertEqual(cost_of(task, steps), book.best())
            self.assertEqual(len(steps), book.upper(0)[1])

    def test_tasks_that_keep_their_sayings(self):
        for seed, task in enumerate([*kept(), *[kept_told(seed) for seed in range(120)]]):
            rng = random.Random(seed)
            for word in ("standing", "name", "turn"):
                book = Book(Watched(task), alike=word)
                self.check(book, task)
                while book.waiting() and book.known() < 14:
                    book.open_row(rng.choice(book.waiting()))
                    self.check(book, task)
                    self.check_answer(book, task)

    def test_tasks_that_may_break_them(self):
        for seed in range(120):
            task = broken_told(seed)
            rng = random.Random(seed)
            for word in ("standing", "name", "turn"):
                try:
                    book = Book(task, alike=word)
                    while book.waiting() and book.known() < 12:
                        book.open_row(rng.choice(book.waiting()))
                        self.check(book, task)
                        self.check_answer(book, task)
                except Broken:
                    pass

    def test_all_opened_the_best_is_the_least_of_all_answers(self):
        for seed, task in enumerate([*kept(), *[kept_told(seed) for seed in range(200)], Orders(((3, 1), (2, 2), (5, 5))),
                                     Rooms((3, 2, 4, 1), 2, 5)]):
            least = min([cost for cost, steps in answers_of(task, 10 ** 6)], default=None) if seed < 60 else least_cost(task)
            for word in ("standing", "name", "turn"):
                book = Book(task, alike=word)
                while book.told()[0] == "open":
                    book.open_row(book.waiting()[0])
                self.assertEqual(book.told(), ("never",) if least is None else ("best", least))
                reckoned.open_all(book)
                self.assertEqual(book.told(), ("never",) if least is None else ("best", least))
                self.check_answer(book, task)


class FallsAndRises(unittest.TestCase):
    def test_the_bound_never_falls_and_the_best_never_rises(self):
        for seed in range(150):
            for task in (kept_told(seed), broken_told(seed)):
                rng = random.Random(seed)
                for word in ("standing", "name", "turn"):
                    try:
                        book = Book(task, alike=word)
                        before = (book.bound(), book.best())
                        while book.waiting():
                            book.open_row(rng.choice(book.waiting()))
                            self.assertTrue(book.bound() == NEVER or before[0] != NEVER and before[0] <= book.bound())
                            self.assertTrue(before[1] is None or book.best() <= before[1])
                            before = (book.bound(), book.best())
                    except Broken:
                        pass


if __name__ == "__main__":
    unittest.main()
