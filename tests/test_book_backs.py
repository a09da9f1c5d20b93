"""Books with a back: back steps, radius, what it gives rows, the answer along it."""

import random
import unittest

from seekways.answers import cost_of, is_answer
from seekways.backs import back_holds
from seekways.book import Book
from seekways.errors import Broken
from seekways.nets import Net
from seekways.papers import claim, paper_holds
from seekways.rests import Rest
from seekways.told import Told
from seekways.wholes import NEVER
from tests import reckoned
from tests.helpers import Watched, row
from tests.makers import broken_told, heads_of, kept_told, least_cost
from tests.samples import ENDED, NET, kept


def backed(task):
    return Book(task, alike="standing", back=True)


def ended(*rows):
    """A told task with its ends and heads as the rows have them."""
    ends = tuple(at for at, one in enumerate(rows) if one[1])
    return Told(tuple(rows), ends=ends, heads=heads_of(rows))


class Steps(unittest.TestCase):
    def test_one_by_one(self):
        book = backed(Watched(NET))
        self.assertEqual(book.back_told(), (0, ()))
        told = []
        while True:
            standing = book.open_back()
            if standing is None:
                break
            told.append((standing, book.back_told()[0]))
        self.assertEqual(told, [((3,), 1), ((2,), 1), ((4,), 4), ((1,), 6), ((0,), NEVER)])
        self.assertEqual(book.back_told(), (NEVER, (((3,), 0), ((2,), 1), ((4,), 1), ((1,), 4), ((0,), 6))))
        self.assertEqual(book.openings(), tuple(("back", standing) for standing, radius in told))
        self.assertIsNone(book.open_back())
        self.assertEqual(len(book.openings()), 5)

    def test_all_settled_at_once_where_there_are_no_ends(self):
        book = backed(Net(0, (((1, 0),),), ()))
        self.assertEqual(book.back_told(), (NEVER, ()))
        self.assertIsNone(book.open_back())
        self.assertEqual(book.told(), ("never",))
        self.assertEqual(book.paper(), ("standing", (((0,), NEVER, ("far",)),), (NEVER, ())))
        self.assertIs(paper_holds(Net(0, (((1, 0),),), ()), book.paper()), True)

    def test_a_book_without_a_back(self):
        book = Book(NET, alike="standing")
        self.assertIsNone(book.open_back())
        self.assertIsNone(book.back_told())
        self.assertEqual(book.openings(), ())

    def test_ends_in_order_then_the_least(self):
        book = backed(Net(0, (((5, 3), (2, 1)), (), ((1, 3),), ()), (1, 3)))
        self.assertEqual([book.open_back() for again in range(5)], [(1,), (3,), (2,), (0,), None])
        self.assertEqual(book.back_told(), (NEVER, (((1,), 0), ((3,), 0), ((2,), 1), ((0,), 2))))

    def test_less_distances_that_come_later(self):
        # 1 comes first with 9, then has 3 by way of 2.
        task = ended(row((1, 1)), row((9, 3), (2, 2)), row((1, 3)), row(done=True))
        book = backed(task)
        book.open_back()
        self.assertEqual(book.back_told(), (1, (((3,), 0),)))
        self.assertEqual([book.open_back() for again in range(4)], [(2,), (1,), (0,), None])
        self.assertEqual(book.back_told()[1], (((3,), 0), ((2,), 1), ((1,), 3), ((0,), 4)))

    def test_fewer_steps_go_first_then_what_came_first(self):
        # 2 and 1 both lie 2 far; 2 in two steps came into the back ahead of 1 in one.
        task = Told((row((0, 1), (0, 2)), row((2, 4)), row((1, 3)), row((1, 4)), row(done=True)), ends=(4,),
                    heads=((), ((0, 0),), ((0, 0),), ((1, 2),), ((1, 3), (2, 1))))
        book = backed(task)
        self.assertEqual([book.open_back() for again in range(6)], [(4,), (3,), (1,), (2,), (0,), None])
        same = Told((row((0, 1), (0, 2)), row((2, 3)), row((2, 3)), row(done=True)), ends=(3,),
                    heads=((), ((0, 0),), ((0, 0),), ((2, 2), (2, 1))))
        book = backed(same)
        self.assertEqual([book.open_back() for again in range(5)], [(3,), (2,), (1,), (0,), None])

    def test_what_came_first_stays_first_when_it_gets_less(self):
        # 1 came with 9 ahead of 2; when both lie 3 far in two steps, 1 is settled first.
        rows = (row((1, 1), (1, 2)), row((9, 4), (2, 3)), row((2, 3)), row((1, 4)), row(done=True))
        task = Told(rows, ends=(4,), heads=((), ((1, 0),), ((1, 0),), ((2, 2), (2, 1)), ((9, 1), (1, 3))))
        book = backed(task)
        self.assertEqual([book.open_back() for again in range(4)], [(4,), (3,), (1,), (2,)])

    def test_ways_of_cost_0(self):
        task = ended(row((0, 1), (0, 0)), row((0, 2), (0, 0)), row(done=True), row((0, 3)))
        book = backed(task)
        self.assertEqual([book.open_back() for again in range(4)], [(2,), (1,), (0,), None])
        self.assertEqual(book.back_told(), (NEVER, (((2,), 0), ((1,), 0), ((0,), 0))))
        self.assertEqual(book.upper(0), (0, 2))
        self.assertEqual(book.told(), ("best", 0))
        self.assertEqual(book.answer(), (0, 0))


class Values(unittest.TestCase):
    def test_base_is_the_bound_or_what_is_far(self):
        task = ended(row((2, 1), (7, 3), bound=3), row((0, 2), bound=1), row((1, 3), bound=1), row(done=True))
        book = backed(task)
        self.assertEqual((book.base(0), book.lower(0)), (3, 3))
        book.open_back()
        self.assertEqual((book.base(0), book.lower(0)), (3, 3))
        self.assertEqual(book.paper()[1][0][2], ("bound",))
        net = backed(NET)
        told = []
        while net.open_back() is not None:
            told.append((net.base(0), net.bound(), net.paper()[1][0][2]))
        self.assertEqual(told, [(1, 1, ("far",)), (1, 1, ("far",)), (4, 4, ("far",)), (6, 6, ("far",)), (6, 6, ("far",))])
        self.assertEqual(net.told(), ("best", 6))

    def test_far_rows_where_nothing_leads_to_an_end(self):
        task = ended(row((1, 1), (1, 2)), row((1, 1)), row((1, 3)), row(done=True))
        book = backed(task)
        book.open_row(0)
        while book.open_back() is not None:
            pass
        self.assertEqual((book.base(1), book.base(2)), (NEVER, 1))
        self.assertEqual((book.lower(1), book.lower(2), book.bound()), (NEVER, 1, 2))
        self.assertEqual(book.paper()[1], (((0,), 2, ("next",)), ((1,), NEVER, ("far",)), ((2,), 1, ("far",))))
        self.assertIs(paper_holds(task, book.paper()), True)

    def test_upper_values_where_both_ends_meet(self):
        book = backed(NET)
        self.assertEqual(book.open_back(), (3,))
        self.assertEqual(book.told(), ("open", 1, None))
        book.open_row(0)
        self.assertEqual(book.told(), ("open", 3, 9))
        self.assertEqual(book.answer(), (1,))
        book.open_back()
        book.open_row(1)
        self.assertEqual(book.upper(book.number_of((2,))), (1, 1))
        self.assertEqual((book.upper(1), book.upper(0)), ((4, 2), (6, 3)))
        self.assertEqual(book.told(), ("best", 6))
        self.assertEqual(book.answer(), (0, 1, 1))

    def test_the_first_of_two_that_give_the_value(self):
        task = ended(row((1, 2), (1, 1)), row((1, 3)), row((1, 3)), row(done=True))
        book = backed(task)
        while book.open_back() is not None:
            pass
        self.assertEqual((book.upper(0), book.answer()), ((2, 2), (0, 0)))
        book.open_row(0)
        self.assertEqual((book.upper(0), book.answer()), ((2, 2), (0, 0)))

    def test_an_opened_row_has_the_least_of_both(self):
        # 1 is opened and leads to the end for 9; the back then settles it by way of 2 for 2.
        task = ended(row((1, 1)), row((9, 3), (1, 2)), row((1, 3)), row(done=True))
        book = backed(task)
        book.open_row(0)
        book.open_row(1)
        self.assertEqual((book.upper(1), book.answer()), ((9, 1), (0, 0)))
        for again in range(3):
            book.open_back()
        self.assertEqual(book.back_told()[1], (((3,), 0), ((2,), 1), ((1,), 2)))
        self.assertEqual((book.upper(1), book.upper(0)), ((2, 2), (3, 3)))
        self.assertEqual(book.answer(), (0, 1, 0))

    def test_the_answer_stays_on_the_back(self):
        # The back settles 0 by way of 1; an opened row of the same value on its way changes nothing.
        task = ended(row((3, 1), (0, 0)), row((0, 2), (0, 1), (1, 3)), row((1, 3)), row(done=True))
        book = backed(task)
        while book.open_back() is not None:
            pass
        self.assertEqual(book.upper(0), (4, 2))
        self.assertEqual(book.answer(), (0, 2))

    def test_the_first_next_with_just_the_distance_and_steps(self):
        task = ended(row((1, 1), (2, 2), (1, 2), (1, 3)), row((1, 2)), row((1, 4)), row((1, 4)), row(done=True))
        book = backed(task)
        while book.open_back() is not None:
            pass
        self.assertEqual(book.upper(0), (2, 2))
        self.assertEqual(book.answer(), (2, 0))

    def test_a_rest_of_a_task_with_ends(self):
        book = backed(Rest(ENDED, (1,)))
        while book.told()[0] == "open":
            book.open_back()
        self.assertEqual(book.told(), ("best", 1))
        self.assertEqual(book.answer(), (0, 0))


class AgainstAllWays(unittest.TestCase):
    def check(self, book, task):
        for number in range(book.known()):
            self.assertEqual(book.base(number), reckoned.base(book, task, number))
            self.assertEqual(book.lower(number), reckoned.lower(book, task, number))
            self.assertEqual(book.upper(number), reckoned.upper(book, task, number))
            self.assertEqual(book.reached(number), reckoned.reached(book, task, number))
        self.assertIs(back_holds(task, book.back_told()), True)
        self.assertIs(paper_holds(task, book.paper()), True)
        self.assertEqual(claim(book.paper()), book.bound())
        self.assertEqual(book.paper()[2], book.back_told())
        if book.best() is None:
            self.assertIsNone(book.answer())
        else:
            self.assertIs(is_answer(task, book.answer()), True)
            self.assertEqual(cost_of(task, book.answer()), book.best())
            self.assertEqual(len(book.answer()), book.upper(0)[1])

    def tasks(self):
        every = [*kept(), *[kept_told(seed) for seed in range(160)]]
        return [task for task in every if task.ends() is not None]

    def go(self, book, task, rng):
        """Open rows and do back steps in any order, till nothing is left."""
        before = (book.bound(), book.best())
        while True:
            if book.waiting() and rng.random() < 0.5:
                book.open_row(rng.choice(book.waiting()))
            elif book.open_back() is None:
                if not book.waiting():
                    return
                continue
            self.check(book, task)
            self.assertTrue(book.bound() == NEVER or before[0] != NEVER and before[0] <= book.bound())
            self.assertTrue(before[1] is None or book.best() <= before[1])
            before = (book.bound(), book.best())

    def test_tasks_that_keep_their_sayings(self):
        for seed, task in enumerate(self.tasks()):
            rng = random.Random(seed)
            book = backed(Watched(task))
            self.check(book, task)
            self.go(book, task, rng)
            least = least_cost(task)
            self.assertEqual(book.told(), ("never",) if least is None else ("best", least))

    def test_the_back_alone_tells_the_best(self):
        for task in self.tasks():
            book = backed(task)
            while book.open_back() is not None:
                pass
            least = least_cost(task)
            self.assertEqual(book.told(), ("never",) if least is None else ("best", least))

    def test_tasks_that_may_break_them(self):
        for seed in range(200):
            task = broken_told(seed)
            if task.ends() is not None:
                try:
                    self.go(backed(task), task, random.Random(seed))
                except Broken:
                    pass


if __name__ == "__main__":
    unittest.main()
