"""Ways: each step's row, what it tells, limits, when it is over, going on by a number of steps."""

import unittest

from seekways.boards import Board
from seekways.book import Book
from seekways.errors import Broken, TooWide
from seekways.looks import look, look_ahead, look_alike
from seekways.nets import Net
from seekways.orders import Orders
from seekways.steps import step_ends
from seekways.tasks import Task
from seekways.told import Told
from seekways.ways import WAYS, Way
from seekways.wholes import NEVER, WORDS
from tests.givens import given_task
from tests.going import look_of, refused_step, refuses_numbers, steps_till_over
from tests.helpers import Watched, row
from tests.makers import broken_told, kept_told
from tests.picking import expected, told
from tests.reckoned import face, fields
from tests.samples import ENDED, NET, TOLD
from tests.test_picks import FORK

SIX = WAYS[:6]
WIDE = Board((0,) * 9, 4, ())


def shown(task, saying, standing, other):
    """What a look tells where a break is said to be."""
    if saying == "ahead":
        return look_ahead(task, standing)
    return look_alike(task, saying, other, standing) if saying in WORDS else look(task, standing)


class Words(unittest.TestCase):
    def test_the_seven(self):
        self.assertEqual(WAYS, ("deep", "wide", "costs", "bounds", "branch", "deepen", "ends"))

    def test_kind_book_and_limit_at_first(self):
        for word in SIX:
            way = Way(FORK, word)
            self.assertEqual((way.kind(), way.book().alike(), way.book().known()), (word, "name", 1))
            self.assertEqual(way.limit(), 2 if word == "deepen" else None)
            self.assertIsNone(way.book().back_told())
            self.assertIs(way.is_over(), False)
        way = Way(ENDED, "ends", alike="standing")
        self.assertEqual((way.kind(), way.limit(), way.book().back_told()), ("ends", None, (0, ())))

    def test_the_book_is_one_and_the_same(self):
        way = Way(FORK, "wide", alike="turn")
        book = way.book()
        way.step()
        self.assertEqual(book.openings(), (("row", 0),))
        self.assertIs(way.book(), book)
        self.assertEqual(book.alike(), "turn")


class Steps(unittest.TestCase):
    def check(self, way, rows):
        told = steps_till_over(self, way, 50)
        self.assertEqual(told, [("opened", number) for number in rows])
        self.assertEqual(way.book().openings(), tuple(("row", number) for number in rows))

    def test_each_word_over_a_fork(self):
        self.check(Way(FORK, "deep"), (0, 4, 3, 2, 1))
        self.check(Way(FORK, "wide"), (0, 1, 2))
        self.check(Way(FORK, "costs"), (0, 2, 3, 1))
        self.check(Way(FORK, "bounds"), (0, 2, 1))
        self.check(Way(FORK, "branch"), (0, 4, 2, 1))
        self.check(Way(FORK, "deepen"), (0, 2, 1))

    def test_the_limit_grows(self):
        way = Way(FORK, "deepen")
        limits = []
        while not way.is_over():
            limits.append(way.limit())
            way.step()
        # When 2 is opened the least sum is 3, that of 1.
        self.assertEqual((limits, way.limit()), ([2, 2, 2], 3))

    def test_every_step_against_numbers_reckoned_otherwise(self):
        tasks = [TOLD, NET, FORK, *[kept_told(seed) for seed in range(40)], *[given_task(seed) for seed in range(40)]]
        for task in tasks:
            for at, word in enumerate(SIX):
                self.go(task, word, WORDS[(at + len(task.start())) % 3])

    def test_every_step_of_tasks_that_may_break(self):
        for seed in range(60):
            self.go(broken_told(seed), SIX[seed % 6], WORDS[seed % 3])

    def go(self, task, word, alike):
        try:
            way = Way(task, word, alike=alike)
        except Broken:
            return
        limit = task.bound(task.start()) if word == "deepen" else None
        book = way.book()
        self.assertEqual(book.told(), told(book, task))
        while not way.is_over():
            number, limit = expected(book, task, word, limit)
            try:
                self.assertEqual(way.step(), ("opened", number))
            except Broken:
                break
            self.assertEqual(way.limit(), limit)
            self.assertEqual(book.openings()[-1], ("row", number))
            self.assertEqual(book.told(), told(book, task))
        self.assertIs(way.is_over(), True)
        self.assertEqual(way.step(), ("over",))

    def test_behind_the_end(self):
        for task in (FORK, TOLD, Task(), Net(0, ((),), (0,)), Told((row(cut=True),)), Orders(((5, 1), (2, 2)))):
            for word in SIX:
                way = Way(Watched(task), word)
                way.go(1000)
                before = look_of(way)
                self.assertIs(before[2], True)
                self.assertIn(before[3][0], ("never", "best"))
                for again in range(2):
                    self.assertEqual(way.step(), ("over",))
                    self.assertEqual([way.go(0), way.go(1), way.go(1000)], [0, 0, 0])
                self.assertEqual(look_of(way), before)

    def test_over_at_once(self):
        for task, what in ((Net(0, ((),), (0,)), ("best", 0)), (Told((row(cut=True, bound=4),)), ("never",))):
            way = Way(task, "deepen")
            self.assertIs(way.is_over(), True)
            self.assertEqual((way.step(), way.go(3), way.book().told()), (("over",), 0, what))
            self.assertEqual(way.limit(), task.bound((0,)))
            self.assertEqual(way.book().openings(), ())

    def test_over_by_what_the_book_was_handed(self):
        way = Way(FORK, "deep")
        way.book().hint(((0,), (2,), (1,)))
        self.assertIs(way.is_over(), True)
        self.assertEqual(way.step(), ("over",))

    def test_rows_opened_by_the_book_in_between(self):
        way = Way(FORK, "wide")
        way.step()
        way.book().open_row(1)
        self.assertEqual(way.step(), ("opened", 2))
        way = Way(FORK, "deepen")
        way.book().open_row(0)
        way.book().open_row(2)
        self.assertEqual(way.limit(), 2)
        self.assertEqual((way.step(), way.limit()), (("opened", 1), 3))


class Going(unittest.TestCase):
    def test_by_numbers_of_steps(self):
        for word in SIX:
            one, other = Way(FORK, word), Way(FORK, word)
            self.assertEqual(one.go(0), 0)
            self.assertEqual(one.book().openings(), ())
            self.assertEqual(one.go(1), 1)
            self.assertEqual(other.step(), ("opened", 0))
            self.assertEqual(look_of(one), look_of(other))
            many = len(steps_till_over(self, other, 20))
            self.assertEqual(one.go(1000), many)
            self.assertEqual(look_of(one), look_of(other))

    def test_just_so_many(self):
        way = Way(FORK, "deep")
        self.assertEqual([way.go(2), way.go(2), way.go(2)], [2, 2, 1])

    def test_by_anything_else(self):
        for word in WAYS:
            way = Way(ENDED, word, alike="standing")
            refuses_numbers(self, way, look_of)
            way.go(2)
            refuses_numbers(self, way, look_of)
            way.go(1000)
            refuses_numbers(self, way, look_of)

    def test_by_anything_else_of_a_broken_one(self):
        way = Way(Told((row((0, 1), bound=3), row())), "deep")
        refused_step(self, Broken, way.step)
        refuses_numbers(self, way, look_of)


class Ends(unittest.TestCase):
    """A line of five places to a goal; 5 leads there, too, but isn't come to."""

    LINE = Net(0, (((1, 1),), ((1, 2),), ((1, 3),), ((1, 4),), (), ((1, 4),)), (4,))

    def made(self):
        return Way(self.LINE, "ends", alike="standing")

    def test_by_turns(self):
        way = self.made()
        self.assertEqual([way.step() for again in range(4)], [("back", (4,)), ("opened", 0), ("back", (3,)),
                                                              ("opened", 1)])
        # What is settled now has radius 1: 5 stands in the back, too, and is settled ahead of 2.
        self.assertEqual([way.step() for again in range(3)], [("back", (5,)), ("opened", 2), ("over",)])
        self.assertEqual(way.book().answer(), (0, 0, 0, 0))
        self.assertEqual(way.book().openings(),
                         (("back", (4,)), ("row", 0), ("back", (3,)), ("row", 1), ("back", (5,)), ("row", 2)))

    def test_by_turns_where_the_book_did_some_itself(self):
        way = self.made()
        way.book().open_row(0)
        self.assertEqual(way.step(), ("back", (4,)))
        way.book().open_back()
        self.assertEqual(way.step(), ("opened", 1))
        way.book().open_row(2)
        self.assertEqual(way.step(), ("over",))
        way = self.made()
        way.book().hint(((0,), (1,)))
        self.assertEqual([way.step(), way.step()], [("back", (4,)), ("opened", 2)])
        way = self.made()
        way.book().open_back()
        self.assertEqual([way.step(), way.step()], [("opened", 0), ("back", (3,))])

    def test_rows_by_costs(self):
        task = Net(0, (((5, 1), (1, 2), (1, 3)), ((9, 4),), ((9, 4),), ((9, 4),), ()), (4,))
        way = Way(task, "ends", alike="standing")
        self.assertEqual([way.step() for again in range(4)], [("back", (4,)), ("opened", 0), ("back", (1,)),
                                                              ("opened", 2)])

    def test_where_one_of_both_cannot_be_done_the_other_is(self):
        book = Book(self.LINE, alike="standing", back=True)
        book.open_row(0)
        while book.open_back() is not None:
            pass
        book.open_row(1)
        # A back step is due, but all are settled; a way would be over.
        self.assertEqual((book.back_told()[0], step_ends(book)), (NEVER, ("opened", 2)))
        book = Book(self.LINE, alike="standing", back=True)
        book.hint(tuple((at,) for at in range(5)))
        self.assertEqual((book.open_back(), book.waiting()), ((4,), ()))
        # A row is due, but none waits.
        self.assertEqual(step_ends(book), ("back", (3,)))

    def test_no_end_at_all(self):
        way = Way(Net(0, (((1, 0),),), ()), "ends", alike="standing")
        self.assertEqual((way.is_over(), way.step(), way.book().told()), (True, ("over",), ("never",)))

    def test_ends_that_the_start_does_not_lead_to(self):
        way = Way(Net(0, (((1, 0),), ()), (1,)), "ends", alike="standing")
        self.assertEqual([way.step(), way.step()], [("back", (1,)), ("over",)])
        self.assertEqual(way.book().told(), ("never",))

    def test_behind_the_end(self):
        way = Way(Watched(NET), "ends", alike="standing")
        way.go(1000)
        before = look_of(way)
        self.assertEqual((way.step(), way.go(5)), (("over",), 0))
        self.assertEqual(look_of(way), before)
        self.assertEqual(before[3][0], "best")

    def test_every_step_is_the_back_or_a_row_by_costs(self):
        tasks = [task for task in [NET, ENDED, *[kept_told(seed) for seed in range(60)]] if task.ends() is not None]
        for task in tasks:
            way = Way(task, "ends", alike="standing")
            book = way.book()
            last = "row"
            while not way.is_over():
                settled = [standing for standing, distance in book.back_told()[1]]
                number, limit = expected(book, task, "costs", None)
                said = way.step()
                if last == "row":
                    self.assertEqual(said, ("back", book.back_told()[1][-1][0]))
                    self.assertNotIn(said[1], settled)
                else:
                    self.assertEqual(said, ("opened", number))
                last = book.openings()[-1][0]
                self.assertEqual(book.told(), told(book, task))


class Breaks(unittest.TestCase):
    def check(self, way, what, deed, *parts):
        before = (way.limit(), face(way.book()))
        self.assertEqual(fields(refused_step(self, Broken, deed, *parts)), what)
        self.check_over(way, what)
        return before == (way.limit(), face(way.book()))

    def check_over(self, way, what):
        before = (way.limit(), face(way.book()))
        self.assertIs(way.is_over(), True)
        self.assertEqual([way.step(), way.go(0), way.go(7), way.step()], [("over",), 0, 0, ("over",)])
        self.assertEqual(way.book().told(), ("broken", *what))
        self.assertIs(way.book().is_broken(), True)
        self.assertEqual(fields(refused_step(self, Broken, way.book().bound)), what)
        self.assertEqual((way.limit(), face(way.book())), before)

    def test_at_a_step(self):
        task = Told((row((1, 1), (1, 2)), row((0, 2), name=1, bound=1), row(name=2)))
        for word in SIX:
            way = Way(task, word)
            way.step()
            if word in ("deep", "costs", "branch", "deepen", "bounds"):
                way.book().open_row(2)
            self.assertIs(self.check(way, ("bound", (1,), (2,)), way.step), True)
            self.assertEqual(way.book().state_of(1), ("waiting",))

    def test_the_limit_stays_where_it_would_have_grown(self):
        task = Told((row((2, 1)), row((0, 2), name=1, bound=1), row(name=2)))
        way = Way(task, "deepen")
        way.step()
        self.assertEqual(way.limit(), 0)
        self.check(way, ("bound", (1,), (2,)), way.step)
        self.assertEqual(way.limit(), 0)

    def test_by_going_on_what_was_done_ahead_stays(self):
        task = Told((row((1, 1)), row((1, 2), name=1), row((0, 3), name=2, bound=1), row(name=3)))
        way = Way(task, "wide")
        self.assertIs(self.check(way, ("bound", (2,), (3,)), way.go, 9), False)
        self.assertEqual(way.book().openings(), (("row", 0), ("row", 1)))

    def test_by_ends(self):
        heads = ((), (), ((1, 0), (5, 1)))
        task = Told((row((1, 2)), row(name=1), row(done=True, name=2)), ends=(2,), heads=heads)
        way = Way(task, "ends", alike="standing")
        self.assertIs(self.check(way, ("ahead", (2,), (1,)), way.step), True)
        self.assertEqual(way.book().openings(), ())

    def test_met_by_the_book_itself(self):
        task = Told((row((0, 1), bound=3), row()))
        way = Way(task, "bounds")
        refused_step(self, Broken, way.book().open_row, 0)
        self.check_over(way, ("bound", (0,), (1,)))

    def test_as_it_is_made(self):
        for task, what in (
            (Told((row(done=True, bound=2),)), ("bound", (0,), (0,))),
            (Told((row((1, 1), cut=True), row())), ("cut", (0,), (1,))),
            (Net(0, (((1, 0),),), (0,), guesses=(3,)), ("bound", (0,), (0,))),
        ):
            for word in SIX:
                for alike in WORDS:
                    with self.assertRaises(Broken) as caught:
                        Way(task, word, alike=alike)
                    self.assertEqual(fields(caught.exception), what)

    def test_every_break_is_told_with_fields_that_show_it(self):
        broken = 0
        for seed in range(400):
            task = broken_told(seed)
            word = WAYS[seed % 7]
            if word == "ends" and task.ends() is None:
                word = "deep"
            try:
                way = Way(task, word, alike="standing" if word == "ends" else WORDS[seed % 3])
            except Broken:
                continue
            try:
                way.go(1000)
            except Broken as e:
                broken += 1
                self.assertEqual(shown(task, *fields(e)), fields(e))
                self.check_over(way, fields(e))
        self.assertGreater(broken, 20)


class Width(unittest.TestCase):
    def test_at_a_step(self):
        for word in ("wide", "costs", "bounds"):
            way = Way(WIDE, word, alike="standing")
            self.assertEqual(refused_step(self, TooWide, way.go, 1000).most, 400)
            # What was done ahead stays: 99 rows of four nexts each are opened.
            self.assertEqual(len(way.book().openings()), 99)
            before = look_of(way)
            self.assertEqual(refused_step(self, TooWide, way.step).most, 400)
            self.assertEqual(refused_step(self, TooWide, way.go, 1).most, 400)
            self.assertEqual(way.go(0), 0)
            self.assertEqual(look_of(way), before)
            self.assertEqual((way.is_over(), way.book().is_broken()), (False, False))

    def test_the_limit_stays(self):
        class Fan(Task):
            """The start leads to one that leads to 400; both for costs above the bound."""

            def has(self, thing):
                return True

            def nexts(self, standing):
                return ((3, (1,)),) if standing == (0,) else tuple((1, (at,)) for at in range(2, 402))

        way = Way(Fan(), "deepen", alike="standing")
        self.assertEqual((way.step(), way.limit()), (("opened", 0), 0))
        for again in range(2):
            self.assertEqual(refused_step(self, TooWide, way.step).most, 400)
            self.assertEqual((way.limit(), way.is_over(), way.book().known()), (0, False, 2))


if __name__ == "__main__":
    unittest.main()
