"""The book: rows, states, openings, likeness, what refuses its making."""

import unittest

from seekways.boards import Board
from seekways.book import Book
from seekways.errors import BadNumber, BadWay
from seekways.nets import Net
from seekways.rooms import Rooms
from seekways.tasks import Task
from seekways.told import Told
from tests.helpers import ODD, Watched, row
from tests.reckoned import face, open_all, refused
from tests.samples import ENDED, NET, TOLD, kept

OPEN, WAITING, DONE, CUT = ("opened",), ("waiting",), ("done",), ("cut",)
ROOMS = Rooms((2, 3), 2, 3)


def rows_of(book):
    return [(book.standing_of(number), book.state_of(number)) for number in range(book.known())]


class Made(unittest.TestCase):
    def word(self, task, **named):
        with self.assertRaises(BadWay) as caught:
            Book(task, **named)
        return caught.exception.word

    def test_it_knows_the_start(self):
        for task in kept():
            for word in ("standing", "name", "turn"):
                book = Book(Watched(task), alike=word)
                start = task.start()
                state = DONE if task.is_done(start) else CUT if task.cut(start) else WAITING
                self.assertEqual(rows_of(book), [(start, state)])
                self.assertEqual(book.number_of(start), 0)
                self.assertEqual(book.openings(), ())
                self.assertEqual(book.alike(), word)
                self.assertIsNone(book.back_told())
                self.assertIs(book.is_broken(), False)

    def test_by_name_where_nothing_is_told(self):
        self.assertEqual(Book(TOLD).alike(), "name")
        self.assertEqual(Book(TOLD).open_back(), None)

    def test_words_that_are_none(self):
        for word in (*ODD, 0, 5, "names", "Name", "standing ", ("name",), ["turn"]):
            self.assertEqual(self.word(TOLD, alike=word), (word,))
            self.assertEqual(self.word(TOLD, alike=word, back=True), (word,))

    def test_a_back_asks_standing_then_ends(self):
        for word in ("name", "turn"):
            self.assertEqual(self.word(NET, alike=word, back=True), ("alike",))
            self.assertEqual(self.word(TOLD, alike=word, back=True), ("alike",))
        self.assertEqual(self.word(NET, back=True), ("alike",))
        for task in (TOLD, Task(), ROOMS):
            self.assertEqual(self.word(task, alike="standing", back=True), ("ends",))
        broken = Told((row(cut=True, done=True),))
        self.assertEqual(self.word(broken, alike="standing", back=True), ("ends",))
        for task in (NET, ENDED, Net(0, ((),), ())):
            self.assertIsNotNone(Book(task, alike="standing", back=True).back_told())

    def test_all_is_handed_in_by_name(self):
        with self.assertRaises(TypeError):
            Book(NET, "standing")


class Opened(unittest.TestCase):
    def test_rooms_by_name(self):
        book = Book(Watched(ROOMS))
        self.assertIsNone(book.open_row(0))
        self.assertEqual(rows_of(book), [
            ((0, 0, 0), OPEN), ((1, 2, 0), WAITING), ((1, 0, 2), ("like", 1))])
        self.assertEqual(book.waiting(), (1,))
        self.assertEqual(book.progress(), (2, 1))
        book.open_row(1)
        self.assertEqual(rows_of(book)[1:], [((1, 2, 0), OPEN), ((1, 0, 2), ("like", 1)), ((2, 2, 3), DONE)])
        self.assertEqual(book.waiting(), ())
        self.assertEqual(book.progress(), (4, 0))
        self.assertEqual(book.openings(), (("row", 0), ("row", 1)))

    def test_rooms_by_standing(self):
        book = Book(ROOMS, alike="standing")
        book.open_row(0)
        self.assertEqual(book.waiting(), (1, 2))
        book.open_row(2)
        self.assertEqual(rows_of(book), [
            ((0, 0, 0), OPEN), ((1, 2, 0), WAITING), ((1, 0, 2), OPEN), ((2, 3, 2), DONE)])
        book.open_row(1)
        self.assertEqual(rows_of(book)[1], ((1, 2, 0), OPEN))
        self.assertEqual(book.known(), 5)
        self.assertEqual(book.openings(), (("row", 0), ("row", 2), ("row", 1)))

    def test_turns(self):
        book = Book(TOLD, alike="turn")
        book.open_row(0)
        self.assertEqual(rows_of(book), [((0,), OPEN), ((1,), WAITING), ((2,), ("like", 1)), ((4,), WAITING)])
        self.assertEqual(book.waiting(), (1, 3))
        book.open_row(3)
        self.assertEqual(rows_of(book)[3:], [((4,), OPEN), ((5,), CUT)])
        book.open_row(1)
        self.assertEqual(rows_of(book)[5:], [((3,), DONE)])
        board = Book(Board((0, 0), 2, ((0, 1),), turns=((2, 1),)), alike="turn")
        board.open_row(0)
        self.assertEqual(rows_of(board)[1:], [((1, 0), WAITING), ((2, 0), ("like", 1))])

    def test_like_a_row_that_is_opened_already(self):
        task = Told((row((1, 1), (1, 2)), row((1, 4), name=1), row((1, 3), name=2), row((1, 4), name=1), row(name=4)))
        book = Book(task)
        for number in (0, 1, 2):
            book.open_row(number)
        self.assertEqual(rows_of(book)[3:], [((4,), WAITING), ((3,), ("like", 1))])

    def test_like_the_very_row_that_is_opened(self):
        task = Told((row((1, 1)), row((1, 0))))
        book = Book(task)
        book.open_row(0)
        self.assertEqual(rows_of(book), [((0,), OPEN), ((1,), ("like", 0))])

    def test_done_and_cut_go_ahead_of_likeness(self):
        task = Told((row((1, 1), (1, 2), (1, 3), (1, 4)), row(name=5), row(done=True, name=5), row(cut=True, name=5),
                     row(name=5)))
        book = Book(task)
        book.open_row(0)
        self.assertEqual(rows_of(book)[1:], [((1,), WAITING), ((2,), DONE), ((3,), CUT), ((4,), ("like", 1))])

    def test_done_and_cut_rows_have_none_like_them(self):
        task = Told((row((1, 1), (1, 2), (1, 3)), row(done=True, name=5), row(cut=True, name=5), row(name=5)))
        book = Book(task)
        book.open_row(0)
        self.assertEqual(rows_of(book)[1:], [((1,), DONE), ((2,), CUT), ((3,), WAITING)])

    def test_by_standing_nothing_is_like(self):
        for task in kept():
            book = Book(Watched(task), alike="standing")
            open_all(book)
            self.assertTrue(all(book.state_of(at)[0] != "like" for at in range(book.known())))

    def test_nexts_that_come_twice_or_are_known(self):
        task = Told((row((1, 1), (2, 1), (0, 0), (3, 2)), row((1, 0), (1, 2)), row()))
        book = Book(task, alike="standing")
        book.open_row(0)
        self.assertEqual([standing for standing, state in rows_of(book)], [(0,), (1,), (2,)])
        book.open_row(1)
        self.assertEqual(book.known(), 3)
        book.open_row(2)
        self.assertEqual(book.progress(), (3, 0))

    def test_rows_come_in_the_order_of_nexts(self):
        book = Book(Net(0, (((1, 3), (0, 1), (5, 2)), (), (), ((1, 2),)), ()))
        book.open_row(0)
        self.assertEqual([standing for standing, state in rows_of(book)], [(0,), (3,), (1,), (2,)])

    def test_numbers(self):
        for task in kept():
            for word in ("standing", "name", "turn"):
                book = Book(task, alike=word)
                open_all(book)
                for number in range(book.known()):
                    self.assertEqual(book.number_of(book.standing_of(number)), number)
                self.assertIsNone(book.number_of((998,)))
        self.assertIsNone(Book(TOLD).number_of((1,)))

    def test_in_any_order_the_last_first(self):
        for task in kept():
            book = Book(Watched(task), alike="standing")
            many = 0
            while book.waiting():
                number = book.waiting()[-1]
                book.open_row(number)
                many += 1
                self.assertEqual(book.state_of(number), OPEN)
                self.assertEqual(book.openings()[-1], ("row", number))
            self.assertEqual(len(book.openings()), many)


class BadNumbers(unittest.TestCase):
    def test_what_is_no_waiting_row(self):
        book = Book(TOLD, alike="turn")
        book.open_row(0)
        book.open_row(3)
        # Opened, like, opened, cut, and none at all.
        for number in (0, 2, 3, 4, 5, -1, -4, 400, 10 ** 30):
            self.assertEqual(refused(self, book, BadNumber, book.open_row, number).number, number)
        done = Book(Told((row(done=True),)))
        self.assertEqual(refused(self, done, BadNumber, done.open_row, 0).number, 0)

    def test_anything(self):
        book = Book(TOLD)
        for thing in (*ODD, (0,), [0], "0"):
            error = refused(self, book, BadNumber, book.open_row, thing)
            self.assertIs(error.number, thing)
        self.assertEqual(book.waiting(), (0,))

    def test_truths_are_no_numbers(self):
        book = Book(NET, alike="standing")
        refused(self, book, BadNumber, book.open_row, False)
        book.open_row(0)
        refused(self, book, BadNumber, book.open_row, True)
        book.open_row(1)


class Untouched(unittest.TestCase):
    def test_what_is_told_does_not_change_behind_ones_back(self):
        book = Book(NET, alike="standing", back=True)
        told = (face(book), book.told(), book.paper(), book.answer())
        again = (face(book), book.told(), book.paper(), book.answer())
        self.assertEqual(told, again)
        openings = book.openings()
        book.open_row(0)
        book.open_back()
        self.assertEqual(openings, ())
        self.assertEqual(book.openings(), (("row", 0), ("back", (3,))))


if __name__ == "__main__":
    unittest.main()
