"""Words of ways that are none, and what a way of a task may not be."""

import unittest

from seekways.boards import Board
from seekways.errors import BadWay
from seekways.nets import Net
from seekways.told import Told
from seekways.ways import WAYS, Way
from seekways.wholes import WORDS
from tests.helpers import ODD, Watched, row
from tests.samples import ENDED, NET, TOLD, samples

NO_WORDS = (*ODD, 0, 1, 7, "Deep", "deep ", " deep", "deeper", "dee", "end", ("deep",), ["deep"], {"deep": 1},
            "standing")
NO_ALIKES = (*ODD, 0, 1, "Name", "name ", "names", "deep", "ends", ("name",), ["standing"], {"turn": 1})


class Refused(unittest.TestCase):
    def check(self, what, task, word, **named):
        for again in range(2):
            with self.assertRaises(BadWay) as caught:
                Way(task, word, **named)
            self.assertEqual(caught.exception.word, what)
        return caught.exception.word

    def test_the_ways_word(self):
        for task in (TOLD, NET, Board((0,), 1, ())):
            for word in NO_WORDS:
                self.assertIs(self.check((word,), task, word)[0], word)

    def test_the_books_word(self):
        for word in WAYS:
            for alike in NO_ALIKES:
                self.assertIs(self.check((alike,), ENDED, word, alike=alike)[0], alike)

    def test_the_ways_word_goes_first(self):
        for word in NO_WORDS:
            self.check((word,), ENDED, word, alike="no")
            self.check((word,), ENDED, word, alike=word)

    def test_the_books_word_goes_ahead_of_what_ends_asks(self):
        for task in (TOLD, ENDED):
            for alike in NO_ALIKES:
                self.check((alike,), task, "ends", alike=alike)

    def test_ends_by_another_word_than_standing(self):
        for task in (TOLD, ENDED, NET, Board((0,), 1, ())):
            for alike in ("name", "turn"):
                self.check(("alike",), task, "ends", alike=alike)
            self.check(("alike",), task, "ends")

    def test_ends_of_a_task_that_tells_none(self):
        for task in samples():
            if task.ends() is None:
                self.check(("ends",), task, "ends", alike="standing")
            elif task == ENDED:
                self.assertEqual(Way(task, "ends", alike="standing").kind(), "ends")

    def test_all_of_it_goes_ahead_of_a_break_at_the_start(self):
        broken = Told((row(done=True, bound=2),))
        self.check(("no",), broken, "no")
        self.check(("no",), broken, "deep", alike="no")
        self.check(("alike",), broken, "ends")
        self.check(("ends",), broken, "ends", alike="standing")
        self.check(("alike",), Net(0, ((),), (0,), guesses=(1,)), "ends")

    def test_all_words_with_all_words(self):
        for word in WAYS[:6]:
            for alike in WORDS:
                way = Way(Watched(TOLD), word, alike=alike)
                self.assertEqual((way.kind(), way.book().alike()), (word, alike))

    def test_what_is_handed_in_is_not_changed(self):
        thing = ["deep", {"a": [1]}]
        self.check((thing,), TOLD, thing)
        self.assertEqual(thing, ["deep", {"a": [1]}])


if __name__ == "__main__":
    unittest.main()
