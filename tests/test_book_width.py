"""Books that would have more rows, or a back more standings, than may be."""

import unittest

from seekways.boards import Board
from seekways.book import Book
from seekways.errors import Broken, TooWide
from seekways.papers import paper_holds
from seekways.tasks import Task
from tests.reckoned import face, fields, open_all, refused

THREE = Board((0,) * 9, 3, ())
FOUR = Board((0,) * 9, 4, ())


class Fan(Task):
    """A start that leads to so many standings; some of them are done, with a wrong bound."""

    def __init__(self, many, wrong=()):
        self.many = many
        self.wrong = wrong

    def has(self, thing):
        return isinstance(thing, tuple) and len(thing) == 1 and 0 <= thing[0] <= self.many

    def nexts(self, standing):
        return tuple((1, (at,)) for at in range(1, self.many + 1)) if standing == (0,) else ()

    def is_done(self, standing):
        return standing[0] in self.wrong

    def bound(self, standing):
        return 1 if standing[0] in self.wrong else 0


class Ended(Task):
    """So many standings ahead of one end, and all of them ahead of the first of them, too."""

    def __init__(self, many, cost=1):
        self.many = many
        self.cost = cost

    def start(self):
        return (1,)

    def has(self, thing):
        return isinstance(thing, tuple) and len(thing) == 1 and 0 <= thing[0] <= self.many

    def nexts(self, standing):
        return ((1, (0,)), (1, (1,)))

    def is_done(self, standing):
        return standing == (0,)

    def ends(self):
        return ((0,),)

    def ahead(self, standing):
        return tuple((self.cost, (at,)) for at in range(1, self.many + 1)) if standing in ((0,), (1,)) else ()


class Rows(unittest.TestCase):
    def test_400_rows_and_one_more(self):
        book = Book(THREE, alike="standing")
        open_all(book)
        self.assertEqual(book.known(), 400)
        told = (book.told(), book.paper())
        for number in (book.waiting()[0], book.waiting()[5], book.waiting()[-40]):
            self.assertEqual(refused(self, book, TooWide, book.open_row, number).most, 400)
        self.assertIs(book.is_broken(), False)
        self.assertEqual((book.told(), book.paper()), told)
        self.assertIs(paper_holds(THREE, book.paper()), True)

    def test_where_some_of_the_nexts_would_go_in(self):
        book = Book(FOUR, alike="standing")
        open_all(book)
        self.assertEqual(book.known(), 397)
        refused(self, book, TooWide, book.open_row, book.waiting()[0])
        self.assertEqual(book.known(), 397)

    def test_a_row_that_leads_to_known_ones_alone_is_opened_at_400(self):
        book = Book(Fan(399), alike="standing")
        book.open_row(0)
        self.assertEqual(book.known(), 400)
        book.open_row(399)
        self.assertEqual(book.state_of(399), ("opened",))

    def test_by_the_start(self):
        book = Book(Fan(400), alike="standing")
        self.assertEqual(refused(self, book, TooWide, book.open_row, 0).most, 400)
        self.assertEqual((book.known(), book.waiting(), book.told()), (1, (0,), ("open", 0, None)))

    def test_a_break_ahead_of_that_row_goes_first(self):
        book = Book(Fan(500, wrong=(399,)))
        self.assertEqual(fields(refused(self, book, Broken, book.open_row, 0)), ("bound", (399,), (399,)))

    def test_a_break_at_that_row_or_behind_it_does_not(self):
        for wrong in (400, 401, 500):
            book = Book(Fan(500, wrong=(wrong,)))
            self.assertEqual(refused(self, book, TooWide, book.open_row, 0).most, 400)

    def test_handed_over(self):
        book = Book(THREE, alike="standing")
        open_all(book, 100)
        things = tuple(book.standing_of(number) for number in book.waiting())
        before = face(book)
        self.assertEqual(refused(self, book, TooWide, book.hint, things).most, 400)
        self.assertEqual(face(book), before)
        self.assertEqual(book.hint(things[:5]), 5)
        open_all(book)
        self.assertEqual(refused(self, book, TooWide, book.offer, (0,) * 9).most, 400)
        other = Book(THREE, alike="standing")
        other.open_row(0)
        other.open_row(3)
        self.assertEqual(book.take(other.paper()), 0)


class Backs(unittest.TestCase):
    def test_400_standings_and_one_more(self):
        book = Book(Ended(399), alike="standing", back=True)
        self.assertEqual(book.open_back(), (0,))
        self.assertEqual(book.back_told(), (1, (((0,), 0),)))
        self.assertEqual([book.open_back(), book.open_back()], [(1,), (2,)])
        self.assertEqual(book.back_told(), (1, (((0,), 0), ((1,), 1), ((2,), 1))))
        book = Book(Ended(400), alike="standing", back=True)
        self.assertEqual(refused(self, book, TooWide, book.open_back).most, 400)
        self.assertEqual(book.back_told(), (0, ()))
        self.assertIs(book.is_broken(), False)

    def test_a_break_goes_first(self):
        book = Book(Ended(500, cost=2), alike="standing", back=True)
        self.assertEqual(fields(refused(self, book, Broken, book.open_back)), ("ahead", (0,), (1,)))


if __name__ == "__main__":
    unittest.main()
