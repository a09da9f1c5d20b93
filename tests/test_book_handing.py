"""What is handed over to a book: hints, offers, papers."""

import random
import unittest

from seekways.answers import cost_of, is_answer
from seekways.boards import Board
from seekways.book import Book
from seekways.errors import BadHint, BadPaper, BadSteps, Broken
from seekways.nets import Net
from seekways.papers import claim, paper_holds
from seekways.rests import Rest
from seekways.rooms import Rooms
from seekways.tasks import Task
from seekways.told import Told
from seekways.wholes import NEVER
from tests.helpers import ODD, Watched, row
from tests.makers import answers_of, broken_told, kept_told, least_cost
from tests.reckoned import face, fields, refused
from tests.samples import ENDED, NET, TOLD, kept

LINE = Net(0, (((1, 1), (1, 4)), ((1, 2),), ((1, 3),), (), ((1, 5),), ()), (3,))


def rows(book):
    return [number for word, number in book.openings() if word == "row"]


def standings(book):
    """The standings opened, in order."""
    return [book.standing_of(number) for number in rows(book)]


class Hints(unittest.TestCase):
    def test_each_time_the_first_that_waits(self):
        book = Book(Watched(LINE))
        self.assertEqual(book.hint(((2,), (1,), (4,), (0,))), 4)
        # Only 0 waits at first; then 1 stands ahead of 4, and when 1 is opened 2 stands ahead of all.
        self.assertEqual(standings(book), [(0,), (1,), (2,), (4,)])
        self.assertEqual(book.told(), ("open", 2, 3))

    def test_what_does_not_wait_is_passed_over(self):
        book = Book(LINE)
        self.assertEqual(book.hint(((1,), (2,), (3,), (4,))), 0)
        self.assertEqual(book.openings(), ())
        self.assertEqual(book.hint(((0,), (0,), (3,), (5,))), 1)
        self.assertEqual(book.hint(((0,),)), 0)
        self.assertEqual(book.hint(()), 0)
        self.assertEqual(book.hint(((2,), (4,))), 1)
        self.assertEqual(standings(book), [(0,), (4,)])

    def test_rows_that_are_like_others_are_not_opened(self):
        book = Book(TOLD, alike="turn")
        self.assertEqual(book.hint(((0,), (2,))), 1)
        self.assertEqual(book.state_of(book.number_of((2,))), ("like", 1))

    def test_anything_stands_in_it(self):
        book = Book(Told((row((1, 1)), row((1, 2), name=1), row(name=2))))
        things = (*ODD, 0, 1, [0], [(0,)], (1,), {}, None, True, (True,), "0", (0, 0), (0,))
        self.assertEqual(book.hint(things), 2)
        self.assertEqual(standings(book), [(0,), (1,)])

    def test_truths_are_no_standings(self):
        book = Book(Told((row((1, 1)), row(name=1))))
        self.assertEqual(book.hint(((False,),)), 0)
        book.open_row(0)
        self.assertEqual(book.hint(((True,),)), 0)

    def test_400_things_and_401(self):
        book = Book(LINE)
        self.assertEqual(book.hint((None,) * 399 + ((0,),)), 1)
        refused(self, book, BadHint, book.hint, (None,) * 401)
        refused(self, book, BadHint, book.hint, ((1,),) * 401)
        self.assertEqual(book.hint(((1,),) * 400), 1)

    def test_what_is_no_tuple(self):
        book = Book(LINE)
        for thing in (None, True, False, 0, "", "hint", [], [(0,)], {}, {(0,): 1}):
            refused(self, book, BadHint, book.hint, thing)
        self.assertEqual(book.openings(), ())

    def test_a_break_leaves_all_rows_as_ahead_of_it(self):
        task = Told((row((1, 1)), row((1, 2), name=1), row((0, 3), name=2, bound=1), row(name=3)))
        book = Book(task)
        book.open_row(0)
        self.assertEqual(fields(refused(self, book, Broken, book.hint, ((1,), (2,)))), ("bound", (2,), (3,)))
        self.assertEqual(book.openings(), (("row", 0),))
        self.assertEqual(book.known(), 2)
        self.assertEqual(book.told(), ("broken", "bound", (2,), (3,)))

    def test_with_a_back(self):
        book = Book(NET, alike="standing", back=True)
        book.open_back()
        self.assertEqual(book.hint(((1,), (0,))), 2)
        self.assertEqual(book.openings(), (("back", (3,)), ("row", 0), ("row", 1)))


class Offers(unittest.TestCase):
    def test_opens_along_the_way_and_tells_the_best(self):
        book = Book(Watched(LINE))
        self.assertEqual(book.offer((0, 0, 0)), 3)
        self.assertEqual(standings(book), [(0,), (1,), (2,)])
        self.assertEqual(book.answer(), (0, 0, 0))
        self.assertEqual(book.offer((0, 0, 0)), 3)
        self.assertEqual(len(book.openings()), 3)

    def test_a_better_best_is_told(self):
        task = Net(0, (((9, 2), (1, 1)), ((1, 2),), ()), (2,))
        book = Book(task)
        self.assertEqual(book.offer((0,)), 9)
        self.assertEqual(book.offer((1, 0)), 2)
        self.assertEqual(book.offer((0,)), 2)

    def test_nothing_where_the_start_is_done(self):
        book = Book(Told((row(done=True),)))
        self.assertEqual(book.offer(()), 0)
        self.assertEqual(book.openings(), ())

    def test_the_row_that_a_like_one_is_like(self):
        book = Book(Watched(TOLD), alike="turn")
        self.assertEqual(book.offer((1, 1)), 3)
        self.assertEqual(standings(book), [(0,), (1,)])

    def test_a_standing_that_is_not_known_by_its_label(self):
        # The way goes 0, 2, 5, 6; 2 is like 1, so 5 isn't known, but 4 has its name.
        task = Told((
            row((1, 1), (1, 2)), row((1, 4), name=1), row((1, 5), name=1), row(name=3), row((1, 6), name=4),
            row((1, 6), name=4), row(done=True, name=6),
        ))
        book = Book(task)
        self.assertEqual(book.offer((1, 0, 0)), 3)
        self.assertEqual(standings(book), [(0,), (1,), (4,)])
        self.assertIsNone(book.number_of((5,)))
        self.assertIs(is_answer(task, book.answer()), True)

    def test_a_known_one_that_is_done_or_cut_opens_no_row_of_its_label(self):
        task = Told((row((1, 1), (1, 2)), row(name=5), row(done=True, name=5)))
        book = Book(task)
        self.assertEqual(book.offer((1,)), 1)
        self.assertEqual(standings(book), [(0,)])
        task = Told((row((1, 1), (1, 2)), row(name=5), row((1, 3), cut=True, name=5), row((1, 4), cut=True, name=3),
                     row(done=True, name=4)))
        book = Book(task)
        self.assertIsNone(book.offer((1, 0, 0)))
        self.assertEqual(standings(book), [(0,)])

    def test_by_standing_what_is_not_known_opens_nothing(self):
        # 1 is cut, so it isn't opened, and 2 stays unknown; the task breaks cut, which nobody meets.
        task = Told((row((1, 1)), row((1, 2), cut=True), row((1, 3), cut=True), row(done=True)))
        book = Book(task, alike="standing")
        self.assertIsNone(book.offer((0, 0, 0)))
        self.assertEqual(standings(book), [(0,)])
        self.assertEqual(book.told(), ("never",))

    def test_what_is_no_answer(self):
        book = Book(LINE)
        for thing in (*ODD, 0, (0, 0), (0, 0, 0, 0), (0, 0, 1), (1, 0), [0, 0, 0], (0, 0, False), (False, 0, 0), "000",
                      (0,) * 61):
            refused(self, book, BadSteps, book.offer, thing)
        self.assertEqual(book.openings(), ())
        empty = Book(Task())
        refused(self, empty, BadSteps, empty.offer, ())

    def test_a_break_leaves_all_rows_as_ahead_of_it(self):
        task = Told((row((1, 1)), row((1, 2), name=1), row((0, 3), name=2, bound=1), row(done=True, name=3)))
        book = Book(task)
        self.assertEqual(fields(refused(self, book, Broken, book.offer, (0, 0, 0))), ("bound", (2,), (3,)))
        self.assertEqual((book.known(), book.openings()), (1, ()))

    def test_at_most_what_the_answer_costs(self):
        for seed, task in enumerate([*kept(), *[kept_told(seed) for seed in range(80)]]):
            answers = answers_of(task, 30)
            random.Random(seed).shuffle(answers)
            for word in ("standing", "name", "turn"):
                book = Book(task, alike=word)
                for cost, steps in answers[:6]:
                    best = book.offer(steps)
                    self.assertLessEqual(best, cost)
                    self.assertEqual(best, book.best())
                    self.assertEqual(cost_of(task, book.answer()), best)


class Papers(unittest.TestCase):
    def test_of_the_task_itself(self):
        other = Book(LINE)
        for number in (0, 1):
            other.open_row(number)
        book = Book(LINE)
        self.assertEqual(book.take(other.paper()), 2)
        self.assertEqual(standings(book), [(0,), (1,)])
        self.assertEqual(book.take(other.paper()), 0)
        self.assertEqual(book.paper(), other.paper())

    def test_rows_that_say_next_alone(self):
        paper = ("name", (((0,), 1, ("next",)), ((1,), 0, ("bound",)), ((4,), 0, ("next",)), ((5,), 0, ("bound",))), None)
        self.assertIs(paper_holds(LINE, paper), True)
        book = Book(LINE)
        self.assertEqual(book.take(paper), 2)
        self.assertEqual(standings(book), [(0,), (4,)])

    def test_of_rests(self):
        other = Book(Rest(LINE, (1,)))
        other.open_row(0)
        other.open_row(1)
        paper = other.paper()
        self.assertIs(paper_holds(LINE, paper), False)
        book = Book(LINE)
        self.assertEqual(book.take(paper), 0)
        book.open_row(0)
        self.assertEqual(book.take(paper), 2)
        self.assertEqual(standings(book), [(0,), (1,), (2,)])

    def test_of_another_word_or_with_a_back(self):
        other = Book(NET, alike="standing", back=True)
        other.open_back()
        other.open_row(0)
        for word in ("standing", "name", "turn"):
            self.assertEqual(Book(NET, alike=word).take(other.paper()), 1)
        rooms = Book(Rooms((2, 3), 2, 3))
        rooms.open_row(0)
        rooms.open_row(1)
        self.assertEqual(Book(Rooms((2, 3), 2, 3), alike="standing").take(rooms.paper()), 2)

    def test_what_is_no_right_paper(self):
        book = Book(LINE)
        right = ("name", (((0,), 0, ("bound",)),), None)
        self.assertEqual(book.take(right), 0)
        wrongs = [
            ("name", (((0,), 1, ("bound",)),), None), ("name", (((9,), 0, ("bound",)),), None), ("name", (), None),
            ("name", (((True,), 0, ("bound",)),), None), ("name", ([(0,), 0, ("bound",)],), None), list(right), right[:2],
            ("name", list(right[1]), None), ("name", ((),), None), ("name", (((0,),),), None), ("name", ("0",), None),
            ("name", None, None), ("no", *right[1:]), (*right[:2], (0, ())), ("name", (0,), None), ("name", ({},), None),
            ("name", ([[0], 0, ("bound",)],), None), ("name", (([0], 0, ("bound",)),), None), right + (None,),
        ]
        for thing in (*ODD, 0, *wrongs):
            refused(self, book, BadPaper, book.take, thing)
        self.assertEqual(book.openings(), ())

    def test_of_another_task(self):
        other = Book(ENDED)
        other.open_row(0)
        book = Book(LINE)
        refused(self, book, BadPaper, book.take, other.paper())

    def test_a_break_leaves_all_rows_as_ahead_of_it(self):
        # By name 1 and 2 break; a paper by standing doesn't show that.
        task = Told((row((1, 3)), row((1, 0), name=1), row((2, 0), name=1), row((1, 1), (1, 2), name=3)))
        other = Book(task, alike="standing")
        other.open_row(0)
        other.open_row(1)
        book = Book(task)
        self.assertEqual(fields(refused(self, book, Broken, book.take, other.paper())), ("name", (2,), (1,)))
        self.assertEqual((book.known(), book.openings()), (1, ()))


class TheWholePromise(unittest.TestCase):
    """Whatever is handed over, in any order: papers are right, bounds never fall, bests never rise."""

    def deeds(self, book, task, rng):
        answers = [steps for cost, steps in answers_of(task, 20)]
        for again in range(14):
            by = rng.randrange(5)
            if by == 0 and book.waiting():
                yield book.open_row, rng.choice(book.waiting())
            elif by == 1:
                yield (book.open_back,)
            elif by == 2:
                yield book.hint, tuple((rng.randrange(12),) for at in range(4))
            elif by == 3 and answers:
                yield book.offer, rng.choice(answers)
            elif by == 4:
                yield book.take, self.other_paper(book, task, rng)

    def other_paper(self, book, task, rng):
        """A paper of another book, over a rest from a standing that is known here."""
        rest = Rest(task, book.standing_of(rng.randrange(book.known())))
        other = Book(rest, alike=rng.choice(("standing", "name", "turn")))
        for again in range(rng.randrange(4)):
            if other.waiting():
                other.open_row(rng.choice(other.waiting()))
        return other.paper()

    def go(self, task, seed):
        """Tell the book that came of it; None where it broke."""
        rng = random.Random(seed)
        word = rng.choice(("standing", "name", "turn"))
        try:
            book = Book(task, alike=word, back=word == "standing" and task.ends() is not None)
            before = (book.bound(), book.best())
            for deed, *parts in self.deeds(book, task, rng):
                deed(*parts)
                self.assertIs(paper_holds(task, book.paper()), True)
                self.assertEqual(claim(book.paper()), book.bound())
                self.assertTrue(book.bound() == NEVER or before[0] != NEVER and before[0] <= book.bound())
                self.assertTrue(before[1] is None or book.best() <= before[1])
                self.assertTrue(book.best() is None or is_answer(task, book.answer()))
                before = (book.bound(), book.best())
            return book
        except Broken:
            return None

    def test_tasks_that_keep_their_sayings(self):
        for seed in range(250):
            task = kept_told(seed)
            book = self.go(task, seed)
            least = least_cost(task)
            self.assertIsNotNone(book)
            if book.told()[0] != "open":
                self.assertEqual(book.told(), ("never",) if least is None else ("best", least))
            elif least is not None:
                self.assertLessEqual(book.bound(), least)
                self.assertTrue(book.best() is None or book.best() >= least)

    def test_tasks_that_may_break_them(self):
        broken = [self.go(broken_told(seed), seed) is None for seed in range(250)]
        self.assertIn(True, broken)
        self.assertIn(False, broken)

    def test_what_is_handed_in_is_not_changed(self):
        book = Book(Board((0, 0), 2, ((0, 1),)))
        things = ([(0, 0)], {"a": [1]}, (0, 0))
        book.hint(things)
        self.assertEqual(things, ([(0, 0)], {"a": [1]}, (0, 0)))
        before = face(book)
        refused(self, book, BadPaper, book.take, ["name", [], {}])
        self.assertEqual(face(book), before)


if __name__ == "__main__":
    unittest.main()
