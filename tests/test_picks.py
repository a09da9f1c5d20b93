"""Which row each word picks, of small books, against numbers reckoned otherwise."""

import random
import unittest

from seekways.book import Book
from seekways.errors import Broken
from seekways.nets import Net
from seekways.picks import picked
from seekways.told import Told
from seekways.ways import WAYS
from seekways.wholes import NEVER
from tests.givens import given_task
from tests.helpers import row
from tests.makers import broken_told, kept_told
from tests.picking import expected
from tests.reckoned import face
from tests.samples import ENDED, NET, TOLD

# Sums are 3, 2, 6 and 6 when 0 is opened: rows 1, 2, 3 and 4.
FORK = Told((
    row((3, 1), (1, 2), (1, 3), (6, 4), bound=2), row((1, 5), name=1), row((5, 5), name=2, bound=1),
    row((5, 5), name=3, bound=5), row((0, 5), name=4), row(done=True, name=5),
))


def opened(task, *numbers, alike="name"):
    book = Book(task, alike=alike)
    for number in numbers:
        book.open_row(number)
    return book


class ByHand(unittest.TestCase):
    def check(self, book, picks):
        for word, limit, pick in picks:
            self.assertEqual(picked(book, word, limit), pick, (word, limit))

    def test_the_start(self):
        book = Book(FORK)
        self.check(book, [(word, None, (0, None)) for word in WAYS if word != "deepen"])
        self.check(book, [("deepen", 2, (0, 2)), ("deepen", 0, (0, 2)), ("deepen", 9, (0, 9))])

    def test_each_word(self):
        book = opened(FORK, 0)
        self.check(book, (
            ("deep", None, (4, None)), ("wide", None, (1, None)), ("costs", None, (2, None)), ("ends", None, (2, None)),
            ("bounds", None, (2, None)), ("branch", None, (4, None)), ("deepen", 0, (2, 2)), ("deepen", 1, (2, 2)),
            ("deepen", 2, (2, 2)), ("deepen", 3, (2, 3)), ("deepen", 5, (2, 5)), ("deepen", 6, (4, 6)),
            ("deepen", 7, (4, 7)),
        ))

    def test_the_limit_of_other_words_is_told_as_handed_over(self):
        book = opened(FORK, 0)
        for word in WAYS:
            if word != "deepen":
                for limit in (None, 0, 1, 7):
                    self.assertEqual(picked(book, word, limit)[1], limit)

    def test_branch_with_a_best(self):
        # The best is 4 by 1; 3 and 4 aren't less than that.
        self.check(opened(FORK, 0, 1), (("branch", None, (2, None)), ("deep", None, (4, None))))
        # 2 is opened then: nothing is less than the best, and the book tells it.
        book = opened(FORK, 0, 1, 2)
        self.check(book, (("branch", 5, (None, 5)), ("deepen", 0, (4, 6)), ("bounds", None, (3, None))))
        self.assertEqual(book.told(), ("best", 4))

    def test_a_sum_that_is_just_the_best_is_not_less(self):
        task = Told((row((2, 1), (2, 2), (1, 3)), row(done=True, name=1), row(name=2), row(name=3, bound=1)))
        book = opened(task, 0)
        self.check(book, (("branch", None, (None, None)), ("deep", None, (3, None))))

    def test_no_row_that_waits(self):
        for book in (opened(Told((row(done=True),))), opened(Told((row(),)), 0), opened(Told((row(cut=True),)))):
            for word in WAYS:
                for limit in (None, 0, 3):
                    self.assertEqual(picked(book, word, limit), (None, limit))

    def test_like_ones_by_their_numbers(self):
        task = Told((row((1, 1), (1, 2), (1, 3), bound=1), *[row(name=at, bound=2) for at in (1, 2, 3)]))
        self.check(opened(task, 0), (
            ("costs", None, (1, None)), ("bounds", None, (1, None)), ("deepen", 1, (3, 3)), ("branch", None, (3, None)),
        ))

    def test_reached_goes_over_rows_that_are_like_others(self):
        # 3 is like 1 and leads there for less, so 4 behind 1 is reached for 2, not for 9.
        task = Told((row((8, 1), (1, 2)), row((1, 4), name=1), row((0, 3), name=2), row((1, 4), name=1), row(name=4)))
        book = opened(task, 0, 1, 2)
        self.assertEqual(book.state_of(book.number_of((3,))), ("like", 1))
        self.assertEqual(book.reached(book.number_of((4,))), 2)
        self.check(book, (("deepen", 0, (book.number_of((4,)), 2)),))

    def test_with_a_back_the_greater_counts(self):
        task = Net(0, (((1, 1), (2, 2)), ((9, 3),), ((1, 3),), ()), (3,))
        book = Book(task, alike="standing", back=True)
        book.open_row(0)
        self.check(book, (("bounds", None, (1, None)), ("deepen", 0, (1, 1)), ("costs", None, (1, None))))
        book.open_back()
        # The radius is 1 now, for both.
        self.check(book, (("bounds", None, (1, None)), ("deepen", 0, (1, 2)), ("deepen", 2, (1, 2))))
        book.open_back()
        # 2 is settled with 1; the radius is 3, which is more than 1's bound.
        self.assertEqual(book.back_told(), (3, (((3,), 0), ((2,), 1))))
        self.check(book, (
            ("bounds", None, (2, None)), ("deepen", 0, (2, 3)), ("deepen", 4, (2, 4)), ("branch", None, (None, None)),
            ("costs", None, (1, None)), ("ends", None, (1, None)),
        ))

    def test_with_a_back_that_lets_nothing(self):
        task = Net(0, (((1, 1), (1, 2)), (), (), ()), (3,))
        book = Book(task, alike="standing", back=True)
        book.open_row(0)
        book.open_back()
        self.assertEqual(book.told(), ("never",))
        self.check(book, (
            ("bounds", None, (1, None)), ("branch", None, (2, None)), ("deepen", 7, (2, NEVER)),
            ("deep", None, (2, None)),
            ("costs", None, (1, None)),
        ))

    def test_a_number_goes_ahead_of_never(self):
        # 1 leads nowhere, which the back tells; 2 leads to the end.
        task = Net(0, (((0, 1), (5, 2)), (), ((1, 3),), ()), (3,))
        book = Book(task, alike="standing", back=True)
        book.open_row(0)
        for again in range(3):
            book.open_back()
        self.assertEqual((book.base(1), book.base(2)), (NEVER, 1))
        self.check(book, (
            ("bounds", None, (2, None)), ("deepen", 0, (2, 6)), ("branch", None, (None, None)),
            ("costs", None, (1, None)),
        ))


class Swept(unittest.TestCase):
    def go(self, task, seed):
        """Books of a task, opened here and there; tell how many picks were compared."""
        rng = random.Random(seed)
        word = rng.choice(("standing", "name", "turn"))
        many = 0
        try:
            book = Book(task, alike=word, back=word == "standing" and task.ends() is not None and rng.random() < 0.8)
            for again in range(7):
                before = face(book)
                for pick in WAYS:
                    for limit in (0, rng.randint(0, 8), task.bound(task.start())):
                        limit = limit if pick == "deepen" or rng.random() < 0.5 else None
                        self.assertEqual(picked(book, pick, limit), expected(book, task, pick, limit), (pick, limit))
                        many += 1
                self.assertEqual(face(book), before)
                if book.waiting() and rng.random() < 0.7:
                    book.open_row(rng.choice(book.waiting()))
                else:
                    book.open_back()
        except Broken:
            pass
        return many

    def test_tasks_of_each_kind(self):
        tasks = [TOLD, ENDED, NET, FORK, *[kept_told(seed) for seed in range(60)],
                 *[given_task(seed) for seed in range(60)]]
        many = sum(self.go(task, seed) for seed, task in enumerate(tasks))
        self.assertGreater(many, 10000)

    def test_tasks_that_may_break(self):
        many = sum(self.go(broken_told(seed), seed) for seed in range(60))
        self.assertGreater(many, 2000)


if __name__ == "__main__":
    unittest.main()
