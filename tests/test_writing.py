"""What is written and read: at each moment the same again, and each step behind it, too."""

import random
import unittest

from seekways.boards import Board
from seekways.errors import Broken, TooMany, TooWide
from seekways.joined import Joined
from seekways.local import Local
from seekways.nets import Net
from seekways.orders import Orders
from seekways.rests import Rest
from seekways.told import Told
from seekways.tries import Tries
from seekways.ways import WAYS, Way
from seekways.wholes import WORDS
from seekways.writing import read, written
from tests.givens import given_task, kept_tasks
from tests.going import joined_look, look_of, refused_step
from tests.helpers import row
from tests.makers import answers_of, broken_told, kept_told
from tests.reckoned import fields
from tests.samples import ENDED, NET
from tests.test_picks import FORK


def tries_look(tries):
    return (tries.leaves(), tries.answers(), tries.shut(), tries.is_over())


def local_look(local):
    return (local.numbers(), local.answer(), local.is_over())


LOOKS = {"way": look_of, "row": joined_look, "tries": tries_look, "local": local_look}


def same_on(test, task, one, most=1000):
    """What is written of one, read, is the same, and goes on as that one does."""
    writing = written(one)
    look = LOOKS[writing[0]]
    other = read(task, writing)
    test.assertIs(other.__class__, one.__class__)
    test.assertIsNot(other, one)
    test.assertEqual(written(other), writing)
    test.assertEqual(look(other), look(one))
    for again in range(most):
        said = stepped(one)
        test.assertEqual(stepped(other), said)
        if said[0] not in ("over", "refused"):
            test.assertEqual(look(other), look(one))
            test.assertEqual(written(other), written(one))
        else:
            break


def stepped(mover):
    """What a step tells, or with what it is refused."""
    try:
        return mover.step()
    except Broken as e:
        return ("refused", *fields(e))
    except (TooWide, TooMany) as e:
        return ("refused", e.most)


class Forms(unittest.TestCase):
    def test_a_way(self):
        way = Way(FORK, "deep")
        self.assertEqual(written(way), ("way", "deep", "name", None, ()))
        way.go(2)
        self.assertEqual(written(way), ("way", "deep", "name", None, (("row", 0), ("row", 4))))
        way = Way(FORK, "deepen", alike="turn")
        self.assertEqual(written(way), ("way", "deepen", "turn", 2, ()))
        way.go(1000)
        self.assertEqual(written(way), ("way", "deepen", "turn", 3, (("row", 0), ("row", 2), ("row", 1))))
        way = Way(NET, "ends", alike="standing")
        way.go(2)
        self.assertEqual(written(way), ("way", "ends", "standing", None, (("back", (3,)), ("row", 0))))

    def test_a_row_of_ways(self):
        parts = (("deepen", 2), ("wide", 1), ("deepen", 1))
        joined = Joined(FORK, parts, alike="standing")
        self.assertEqual(written(joined), ("row", parts, "standing", (2, None, 2), 0, 0, ()))
        joined.go(1)
        self.assertEqual(written(joined), ("row", parts, "standing", (2, None, 2), 0, 1, (("row", 0),)))
        joined.go(1)
        self.assertEqual(written(joined), ("row", parts, "standing", (2, None, 2), 1, 0, (("row", 0), ("row", 2))))

    def test_tries(self):
        for cuts in (False, True):
            tries = Tries(NET, cuts=cuts)
            self.assertEqual(written(tries), ("tries", cuts, 0))
            tries.go(2)
            self.assertEqual(written(tries), ("tries", cuts, 2))

    def test_a_local_change(self):
        local = Local(ENDED, (5, 1))
        self.assertEqual(written(local), ("local", (5, 1)))
        local.step()
        self.assertEqual(written(local), ("local", local.numbers()))


class BrokenOnes(unittest.TestCase):
    TASK = Told((row((1, 1), (1, 2)), row(name=1), row((0, 1), name=2, bound=1)))
    WHAT = ("bound", (2,), (1,))

    def test_each_kind(self):
        for mover in (Way(self.TASK, "deep"), Joined(self.TASK, (("deep", 1),)), Tries(self.TASK)):
            mover.go(1)
            written(mover)
            refused_step(self, Broken, mover.go, 5)
            for again in range(2):
                self.assertEqual(fields(refused_step(self, Broken, written, mover)), self.WHAT)

    def test_a_break_met_by_the_book_itself(self):
        way = Way(self.TASK, "wide")
        way.step()
        refused_step(self, Broken, way.book().hint, ((2,),))
        self.assertEqual(fields(refused_step(self, Broken, written, way)), self.WHAT)

    def test_a_local_change_meets_none(self):
        self.assertEqual(written(Local(self.TASK, (1, 0))), ("local", (1, 0)))


class AtEachMoment(unittest.TestCase):
    def movers(self, task):
        for word in WAYS[:6]:
            for alike in WORDS:
                yield lambda: Way(task, word, alike=alike)
        if task.ends() is not None:
            yield lambda: Way(task, "ends", alike="standing")
        for parts in ((("deep", 2), ("deepen", 1)), (("deepen", 3), ("wide", 1), ("deepen", 1)), (("branch", 2),)):
            yield lambda: Joined(task, parts)
        for cuts in (False, True):
            yield lambda: Tries(task, cuts=cuts)
        yield lambda: Local(task, (3, 1, 2))

    def check(self, task, most):
        for make in self.movers(task):
            for moment in range(most):
                try:
                    mover = make()
                    many = mover.go(moment)
                except (Broken, TooMany):
                    break
                same_on(self, task, mover, 40)
                if many < moment:
                    break

    def test_tasks_that_keep_their_sayings(self):
        for task in [FORK, *kept_tasks(5)]:
            self.check(task, 8)

    def test_tasks_that_may_break(self):
        for seed in range(25):
            self.check(broken_told(seed), 6)

    def test_whatever_was_handed_over_in_between(self):
        tasks = [*[kept_told(seed) for seed in range(40)], *[given_task(seed) for seed in range(40)]]
        for seed, task in enumerate(tasks):
            rng = random.Random(seed)
            words = WAYS if task.ends() is not None else WAYS[:6]
            for word in words:
                alike = "standing" if word == "ends" else rng.choice(WORDS)
                way = Way(task, word, alike=alike)
                joined = Joined(task, (("deepen", 2), (WAYS[seed % 6], 1)), alike=alike)
                for mover in (way, joined):
                    self.hand_over(task, mover, rng)
                    same_on(self, task, mover, 30)

    def hand_over(self, task, mover, rng):
        answers = [steps for cost, steps in answers_of(task, 10)]
        book = mover.book()
        for again in range(4):
            mover.go(rng.randrange(2))
            by = rng.randrange(5)
            if by == 0 and book.waiting():
                book.open_row(rng.choice(book.waiting()))
            elif by == 1:
                book.open_back()
            elif by == 2 and answers:
                book.offer(rng.choice(answers))
            elif by == 3:
                book.hint(tuple(book.standing_of(number) for number in book.waiting())[:2])
            elif by == 4:
                other = Way(Rest(task, book.standing_of(rng.randrange(book.known()))), "deep")
                other.go(2)
                book.take(other.book().paper())

    def test_rows_opened_beyond_the_end(self):
        way = Way(FORK, "bounds")
        way.go(1000)
        way.book().open_row(4)
        self.assertIs(way.is_over(), True)
        same_on(self, FORK, way)
        self.assertEqual(written(read(FORK, written(way)))[4][-1], ("row", 4))

    def test_where_a_step_is_refused_for_width(self):
        task = Board((0,) * 9, 4, ())
        for mover in (Way(task, "wide", alike="standing"), Joined(task, (("wide", 7),), alike="standing")):
            refused_step(self, TooWide, mover.go, 1000)
            same_on(self, task, mover)

    def test_where_there_are_too_many(self):
        task = Orders(((1, 1),) * 5)
        tries = Tries(task)
        refused_step(self, TooMany, tries.go, 1000)
        self.assertEqual(written(tries), ("tries", False, 100))
        same_on(self, task, tries)

    def test_gone_on_with_after_every_step(self):
        for task in (FORK, NET, *[kept_told(seed) for seed in range(10)]):
            for word in WAYS[:6]:
                way, other = Way(task, word), Way(task, word)
                while not way.is_over():
                    other = read(task, written(other))
                    self.assertEqual(other.step(), way.step())
                self.assertEqual(look_of(other), look_of(way))

    def test_over_a_like_task(self):
        way = Way(Net(0, (((1, 1), (2, 2)), ((1, 2),), ()), (2,)), "wide")
        way.go(1)
        other = read(Net(0, (((1, 1), (2, 2)), ((1, 2),), ()), (2,)), written(way))
        self.assertEqual(look_of(other), look_of(way))


if __name__ == "__main__":
    unittest.main()
