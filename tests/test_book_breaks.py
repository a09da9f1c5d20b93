"""Breaks that a book meets: where, with which fields, what is refused then and what is told on."""

import random
import unittest

from seekways.book import Book
from seekways.errors import BadHint, BadNumber, BadPaper, BadSteps, BadWay, Broken
from seekways.looks import look, look_ahead, look_alike
from seekways.nets import Net
from seekways.told import Told
from tests.helpers import ODD, row
from tests.makers import answers_of, broken_told
from tests.reckoned import face, fields, refused


def refusing(book):
    """The deeds and questions that a broken book refuses, each with what may be handed in or not."""
    deeds = [(book.open_back,), (book.bound,), (book.best,), (book.answer,), (book.paper,)]
    deeds += [(ask, number) for ask in (book.base, book.lower, book.upper, book.reached) for number in range(book.known())]
    deeds += [(deed, thing) for deed in (book.open_row, book.hint, book.offer, book.take) for thing in (*ODD, 0, 1, (0,))]
    return deeds


class Met(unittest.TestCase):
    def check(self, book, told, deed, *parts):
        """A deed is refused with this break, the book broken but as it was; then all of it is refused so."""
        error = refused(self, book, Broken, deed, *parts)
        self.assertEqual(fields(error), told)
        self.check_broken(book, told)

    def check_broken(self, book, told):
        before = face(book)
        self.assertIs(book.is_broken(), True)
        self.assertEqual(book.told(), ("broken", *told))
        for deed in refusing(book):
            self.assertEqual(fields(refused(self, book, Broken, *deed)), told)
        self.assertEqual(face(book), before)
        self.assertEqual(book.number_of(book.standing_of(0)), 0)

    def check_made(self, task, told):
        for word in ("standing", "name", "turn"):
            with self.assertRaises(Broken) as caught:
                Book(task, alike=word)
            self.assertEqual(fields(caught.exception), told)

    def test_at_the_start_done(self):
        self.check_made(Told((row(done=True, bound=2),)), ("bound", (0,), (0,)))
        self.check_made(Told((row(done=True, cut=True),)), ("cut", (0,), (0,)))
        self.check_made(Told((row(done=True),), ends=(), heads=((),)), ("ends", (0,), (0,)))
        self.check_made(Net(0, (((1, 0),),), (0,), guesses=(3,)), ("bound", (0,), (0,)))

    def test_at_the_start_cut(self):
        self.check_made(Told((row((1, 1), cut=True), row())), ("cut", (0,), (1,)))
        self.check_made(Told((row((1, 1), cut=True, bound=5), row(bound=3))), ("bound", (0,), (1,)))

    def test_a_start_that_waits_is_not_looked_at_till_it_is_opened(self):
        for rows, told in (
            ((row((1, 1), bound=5), row(bound=3)), ("bound", (0,), (1,))),
            ((row((2, 1), (1, 1), bound=5), row((0, 0), bound=3)), ("bound", (0,), (1,))),
        ):
            book = Book(Told(rows))
            self.assertEqual(book.told(), ("open", 5, None))
            self.check(book, told, book.open_row, 0)
            self.assertEqual((book.known(), book.waiting(), book.openings()), (1, (0,), ()))

    def test_ends_at_a_row_opened(self):
        rows = (row((1, 1)), row(done=True))
        lacking = Told(rows, ends=(1,), heads=((), ()))
        book = Book(lacking, alike="standing", back=True)
        self.check(book, ("ends", (0,), (1,)), book.open_row, 0)
        no_end = Told(rows, ends=(0, 1), heads=((), ((1, 0),)))
        book = Book(no_end)
        self.check(book, ("ends", (0,), (0,)), book.open_row, 0)

    def test_the_row_opened_goes_ahead_of_its_nexts(self):
        book = Book(Told((row((1, 1), bound=2), row(done=True, cut=True))))
        self.check(book, ("bound", (0,), (1,)), book.open_row, 0)

    def test_at_a_next_that_is_done_or_cut(self):
        book = Book(Told((row((1, 1), (1, 2)), row(name=1), row(done=True, bound=1))))
        self.check(book, ("bound", (2,), (2,)), book.open_row, 0)
        self.assertEqual(book.known(), 1)
        book = Book(Told((row((1, 1), (1, 2)), row((0, 0), cut=True), row(done=True, bound=1))))
        self.check(book, ("cut", (1,), (0,)), book.open_row, 0)

    def test_a_next_that_waits_is_not_looked_at(self):
        book = Book(Told((row((1, 1)), row((0, 2), bound=1, name=1), row())))
        book.open_row(0)
        self.assertIs(book.is_broken(), False)
        self.check(book, ("bound", (1,), (2,)), book.open_row, 1)
        self.assertEqual(book.state_of(1), ("waiting",))

    def test_two_of_one_name(self):
        for one, other in (
            (row(name=5, bound=1), row(name=5)),
            (row((1, 0), name=5), row((2, 0), name=5)),
            (row((1, 0), name=5), row((1, 3), name=5)),
            (row((1, 0), name=5), row(name=5)),
        ):
            task = Told((row((1, 1), (1, 2)), one, other, row(name=9)), turns=((0, 1, 2, 3),))
            for word in ("name", "turn"):
                book = Book(task, alike=word)
                self.check(book, (word, (2,), (1,)), book.open_row, 0)
            Book(task, alike="standing").open_row(0)

    def test_two_that_turn_into_each_other(self):
        task = Told((row((1, 1), (1, 2)), row(name=1, bound=1), row(name=2)), turns=((0, 2, 1),))
        Book(task, alike="name").open_row(0)
        book = Book(task, alike="turn")
        self.check(book, ("turn", (2,), (1,)), book.open_row, 0)

    def test_a_name_of_the_start_that_comes_again(self):
        book = Book(Told((row((1, 1)), row((2, 1)))))
        self.check(book, ("name", (1,), (0,)), book.open_row, 0)

    def test_on_an_answers_way(self):
        # 2 is like 1, so its next 4 goes for 3; that these two differ is met by the answer alone.
        task = Told((
            row((9, 1), (1, 2)), row((1, 3), name=1), row((1, 4), name=1), row((0, 5), name=3), row((7, 5), name=3),
            row(done=True, name=5),
        ))
        book = Book(task)
        for number in (0, 1, 3):
            book.open_row(number)
        self.assertEqual(book.told(), ("best", 2))
        self.check(book, ("name", (4,), (3,)), book.answer)
        self.assertEqual(book.openings(), (("row", 0), ("row", 1), ("row", 3)))

    def test_on_an_answers_way_at_its_end(self):
        task = Told((
            row((9, 1), (1, 2)), row((1, 3), name=1), row((1, 4), name=1), row(done=True, name=3), row(name=3),
        ))
        book = Book(task)
        book.open_row(0)
        book.open_row(1)
        self.check(book, ("name", (4,), (3,)), book.answer)

    def test_ahead_and_at_a_back_step(self):
        rows = (row((1, 1)), row(done=True))
        book = Book(Told(rows, ends=(1,), heads=((), ((2, 0),))), alike="standing", back=True)
        self.check(book, ("ahead", (1,), (0,)), book.open_back)
        self.assertEqual(book.back_told(), (0, ()))
        book = Book(Told((row((1, 1)), row(done=True, bound=1)), ends=(1,), heads=((), ((1, 0),))), alike="standing",
                    back=True)
        self.check(book, ("bound", (1,), (1,)), book.open_back)
        book = Book(Told((row((1, 1), bound=2), row((1, 2)), row(done=True)), ends=(2,),
                         heads=((), ((1, 0),), ((1, 1),))), alike="standing", back=True)
        self.assertEqual(book.open_back(), (2,))
        self.check(book, ("ahead", (1,), (0,)), book.open_back)
        self.assertEqual(book.openings(), (("back", (2,)),))

    def test_a_look_at_a_standing_goes_ahead_of_one_ahead_of_it(self):
        task = Told((row((1, 1)), row(done=True, bound=1)), ends=(1,), heads=((), ((2, 0),)))
        book = Book(task, alike="standing", back=True)
        self.check(book, ("bound", (1,), (1,)), book.open_back)


class TellsOn(unittest.TestCase):
    def test_what_a_broken_book_tells(self):
        task = Told((row((1, 1)), row((0, 2), bound=1), row()), ends=(), heads=((), ((1, 0),), ((0, 1),)))
        book = Book(task, alike="standing", back=True)
        book.open_row(0)
        refused(self, book, Broken, book.open_row, 1)
        self.assertEqual(book.alike(), "standing")
        self.assertEqual(book.known(), 2)
        self.assertEqual(book.standing_of(1), (1,))
        self.assertEqual(book.state_of(0), ("opened",))
        self.assertEqual(book.state_of(1), ("waiting",))
        self.assertEqual(book.number_of((1,)), 1)
        self.assertIsNone(book.number_of((2,)))
        self.assertEqual(book.waiting(), (1,))
        self.assertEqual(book.progress(), (1, 1))
        self.assertEqual(book.openings(), (("row", 0),))
        self.assertEqual(book.back_told(), (-1, ()))
        self.assertEqual(book.told(), ("broken", "bound", (1,), (2,)))
        self.assertIs(book.is_broken(), True)


class AnyBreak(unittest.TestCase):
    """Whatever is done with tasks that may break sayings: what is met is told with the very standing."""

    def shown(self, task, told):
        """What a look tells where this break was met."""
        saying, standing, other = told
        if saying in ("name", "turn"):
            return look_alike(task, saying, other, standing)
        return look_ahead(task, standing) if saying == "ahead" else look(task, standing)

    def deeds(self, book, task, rng):
        """Some deeds in any order."""
        answers = [steps for cost, steps in answers_of(task, 20)]
        for again in range(12):
            yield rng.choice([
                lambda: book.open_row(rng.choice(book.waiting()) if book.waiting() else 0),
                book.open_back,
                book.answer,
                lambda: book.hint(tuple((rng.randrange(8),) for at in range(3))),
                lambda: book.offer(rng.choice(answers) if answers else ()),
            ])

    def test_any_order(self):
        met = {}
        for seed in range(400):
            task = broken_told(seed)
            rng = random.Random(seed)
            word = rng.choice(("standing", "name", "turn"))
            try:
                book = Book(task, alike=word, back=word == "standing" and task.ends() is not None)
            except Broken as error:
                self.assertEqual(self.shown(task, fields(error)), fields(error))
                continue
            for deed in self.deeds(book, task, rng):
                before = face(book)
                try:
                    deed()
                except (BadNumber, BadSteps):
                    self.assertEqual(face(book), before)
                except Broken as error:
                    self.assertEqual(self.shown(task, fields(error)), fields(error))
                    self.assertEqual(face(book), before)
                    self.assertEqual(book.told(), ("broken", *fields(error)))
                    met[error.saying] = True
                    break
        self.assertEqual(set(met), {"bound", "cut", "ends", "name", "turn", "ahead"})


class Order(unittest.TestCase):
    def test_a_bad_word_goes_ahead_of_a_break(self):
        task = Told((row(done=True, cut=True),))
        with self.assertRaises(BadWay):
            Book(task, alike="no")
        with self.assertRaises(BadWay):
            Book(task, alike="standing", back=True)

    def test_broken_goes_ahead_of_all_that_is_handed_in(self):
        book = Book(Told((row((0, 1), bound=1), row())))
        refused(self, book, BadNumber, book.open_row, 7)
        refused(self, book, BadHint, book.hint, None)
        refused(self, book, BadSteps, book.offer, None)
        refused(self, book, BadPaper, book.take, None)
        refused(self, book, Broken, book.open_row, 0)
        for deed in (book.open_row, book.hint, book.offer, book.take):
            refused(self, book, Broken, deed, None)


if __name__ == "__main__":
    unittest.main()
