"""The whole promise: small tasks of each kind, through texts, desk, ways, hints, offers, papers, stops and writings."""

import random
import unittest

from seekways.answers import cost_of, is_answer
from seekways.desk import Desk
from seekways.edits import carried
from seekways.errors import BadPaper, BadSteps, Broken, TooMany, TooWide
from seekways.joined import Joined
from seekways.local import Local
from seekways.papers import claim, paper_holds
from seekways.rests import Rest, told_of
from seekways.texts import read_task, task_text
from seekways.tries import Tries
from seekways.ways import WAYS, Way
from seekways.wholes import NEVER, WORDS
from seekways.writing import read, written
from tests.desks import task_rows
from tests.givens import given_task, kept_tasks, most_steps
from tests.makers import broken_told, kept_told, least_cost
from tests.reckoned import fields


def made(task, rng):
    """A way or a row of ways of a task."""
    word = rng.choice(WAYS if task.ends() is not None else WAYS[:6])
    if word == "ends":
        return Way(task, word, alike="standing")
    if rng.random() < 0.7:
        return Way(task, word, alike=rng.choice(WORDS))
    parts = tuple((rng.choice(WAYS[:6]), rng.randint(1, 3)) for part in range(rng.randint(1, 4)))
    return Joined(task, parts, alike=rng.choice(WORDS))


class Orders(unittest.TestCase):
    """Movers of one task that hand over to each other, are written, read, carried and gone on with, in any order."""

    def check(self, task, mover, least):
        """What a mover's book tells holds; least is the least cost, or "broken" where sayings may break."""
        book = mover.book()
        if book.is_broken():
            return
        self.assertIs(paper_holds(task, book.paper()), True)
        self.assertEqual(claim(book.paper()), book.bound())
        if book.best() is not None:
            try:
                steps = book.answer()
            except Broken:
                return
            self.assertIs(is_answer(task, steps), True)
            self.assertEqual(cost_of(task, steps), book.best())
        if least == "broken":
            return
        if least is None:
            self.assertIsNone(book.best())
        else:
            self.assertTrue(book.bound() != NEVER and book.bound() <= least)
            self.assertTrue(book.best() is None or book.best() >= least)

    def deed(self, task, movers, rng):
        """Do something with some of the movers; tell the number of the one that it was done to."""
        at = rng.randrange(len(movers))
        book, other = movers[at].book(), rng.choice(movers).book()
        by = rng.randrange(8)
        if by == 0:
            movers[at].go(rng.randrange(4))
        elif by == 1:
            book.hint(tuple(other.standing_of(number) for number in range(other.known())))
        elif by == 2 and other.answer() is not None:
            book.offer(other.answer())
        elif by == 3:
            book.take(other.paper())
        elif by == 4:
            movers[at] = read(task, written(movers[at]))
        elif by == 5 and isinstance(movers[at], Way):
            movers[at] = carried(movers[at], task)
        elif by == 6 and book.waiting():
            book.open_row(rng.choice(book.waiting()))
        elif by == 7:
            rest = made(Rest(task, other.standing_of(rng.randrange(other.known()))), rng)
            rest.go(3)
            book.take(rest.book().paper())
        return at

    def go(self, task, seed, least):
        """Do many things; tell the movers, None where a break was met."""
        rng = random.Random(seed)
        movers = [made(task, rng) for mover in range(3)]
        for again in range(25):
            before = [(mover.book(), mover.book().bound(), mover.book().best()) for mover in movers]
            at = self.deed(task, movers, rng)
            book, bound, best = before[at]
            if movers[at].book() is book:
                self.assertTrue(book.bound() == NEVER or bound != NEVER and bound <= book.bound())
                self.assertTrue(best is None or book.best() <= best)
            self.check(task, movers[at], least)
        return movers

    def test_tasks_that_keep_their_sayings(self):
        for seed, task in enumerate(kept_tasks(40)):
            least = least_cost(task)
            for mover in self.go(task, seed, least):
                word = mover.kind() if isinstance(mover, Way) else "deep"
                self.assertLessEqual(mover.go(1000), most_steps(task, word))
                self.assertEqual(mover.book().told(), ("never",) if least is None else ("best", least))
                self.check(task, mover, least)

    def test_tasks_that_may_break_them(self):
        broken = whole = 0
        for seed in range(150):
            try:
                self.go(broken_told(seed), seed, "broken")
                whole += 1
            except Broken:
                broken += 1
        self.assertGreater(broken, 20)
        self.assertGreater(whole, 20)

    def test_a_broken_book_tells_nothing_more(self):
        met = 0
        for seed in range(200):
            task = broken_told(seed)
            try:
                mover = made(task, random.Random(seed))
            except Broken:
                continue
            try:
                mover.go(1000)
            except Broken as e:
                met += 1
                book = mover.book()
                for ask in (book.bound, book.best, book.answer, book.paper):
                    with self.assertRaises(Broken) as caught:
                        ask()
                    self.assertEqual(fields(caught.exception), fields(e))
                self.assertEqual((book.told(), mover.step()), (("broken", *fields(e)), ("over",)))
        self.assertGreater(met, 10)

    def test_tries_and_local_changes_come_to_an_end(self):
        for seed, task in enumerate(kept_tasks(30)):
            tries, local = Tries(task, cuts=True), Local(task, (seed % 8, 3, 1, 0))
            steps = 0
            while not local.is_over():
                local.step()
                steps += 1
                self.assertLess(steps, 1000)
            self.assertTrue(local.answer() is None or is_answer(task, local.answer()))
            least = least_cost(task)
            if least is not None and local.answer() is not None:
                self.assertGreaterEqual(cost_of(task, local.answer()), least)
            try:
                while tries.go(1000) == 1000:
                    pass
            except TooMany:
                continue
            self.assertEqual(min([cost for answer, cost in tries.answers()], default=None), least)


class Desks(unittest.TestCase):
    """Small told tasks by their texts, and many rows at a desk in many orders."""

    ROWS = ("go {one} 1", "go {one} 2", "go {one} 1000", "tell {one}", "progress {one}", "hint {one} from {other}",
            "offer {one} from {other}", "take {one} from {other}", "write {one}", "read {one}", "carry {one} to t",
            "tell {other}")

    def tasks(self):
        found = [kept_told(seed) for seed in range(40)]
        for seed in range(60):
            try:
                found.append(told_of(given_task(seed)))
            except TooWide:
                pass
        return found

    def desk(self, task, rng):
        desk = Desk()
        self.assertEqual(desk.run(task_rows("t", task)), ("done",))
        for name in ("a", "b", "c"):
            word = rng.choice(WAYS if task.ends() is not None else WAYS[:6])
            alike = "standing" if word == "ends" else rng.choice(WORDS)
            text, = desk.run(f"way {name} of t by {word} alike {alike}")
            self.assertIn(text, ("done", "refused Broken"))
        return desk

    def go(self, task, seed):
        """Pairs of a row and what it told."""
        rng = random.Random(seed)
        desk = self.desk(task, rng)
        found = []
        for again in range(30):
            one = rng.choice(self.ROWS).format(one=rng.choice("abc"), other=rng.choice("abc"))
            text, = desk.run(one)
            found.append((one, text))
        return desk, found

    def check_told(self, task, text, least):
        """What a tell row told holds."""
        word, *words = text.split(" ")
        if word == "never":
            self.assertIsNone(least)
        elif word == "best":
            steps = tuple(int(step) for step in words[1:])
            self.assertIs(is_answer(task, steps), True)
            self.assertEqual((int(words[0][:-1]), cost_of(task, steps)), (least, least))
        else:
            self.assertEqual(word, "open")
            self.assertTrue(least is None or int(words[0]) <= least)
            if len(words) > 1:
                self.assertEqual(words[1], "best")
                self.assertTrue(least is not None and least <= int(words[2]))

    def test_tasks_that_keep_their_sayings(self):
        for seed, task in enumerate(self.tasks()):
            self.assertEqual(read_task(task_text(task)), task)
            least = least_cost(task)
            desk, found = self.go(task, seed)
            for one, text in found:
                if one.startswith("tell"):
                    self.check_told(task, text, least)
                else:
                    self.assertNotIn(text, ("refused Broken", "refused TooWide", "refused BadPaper",
                                            "refused BadWritten"))
            for name in ("a", "b", "c"):
                desk.run(f"go {name} 1000")
                text, = desk.run(f"tell {name}")
                self.check_told(task, text, least)
                self.assertFalse(text.startswith("open"))

    def test_tasks_that_may_break_them(self):
        words = set()
        for seed in range(150):
            for one, text in self.go(broken_told(seed), seed)[1]:
                words.add(" ".join(text.split(" ")[:2]) if text.startswith("refused") else text.split(" ")[0])
        for word in ("refused Broken", "refused NoName", "refused BadSteps", "broken", "open", "best", "never", "done"):
            self.assertIn(word, words)

    def test_the_same_again(self):
        for seed in range(30):
            self.assertEqual(self.go(broken_told(seed), seed)[1], self.go(broken_told(seed), seed)[1])

    def test_as_ways_do_by_themselves(self):
        for seed in range(40):
            task = kept_told(seed)
            desk = Desk()
            desk.run(task_rows("t", task))
            word, alike = WAYS[seed % 6], WORDS[seed % 3]
            desk.run(f"way a of t by {word} alike {alike}")
            way = Way(task, word, alike=alike)
            while not way.is_over():
                way.step()
                self.assertEqual(desk.run("go a 1\nprogress a"),
                                 ("1 steps", "{} shut {} waiting".format(*way.book().progress())))


class HandedIn(unittest.TestCase):
    def test_nothing_that_is_handed_in_is_changed(self):
        task = kept_told(3)
        before = (task.table, task.maps, task.targets, task.heads)
        one, other = Way(task, "deep"), Way(task, "wide")
        one.go(3)
        openings = one.book().openings()
        other.book().hint(((0,), [1], {"a": 1}))
        other.book().take(one.book().paper())
        carried(one, task)
        read(task, written(one))
        self.assertEqual(one.book().openings(), openings)
        self.assertEqual((task.table, task.maps, task.targets, task.heads), before)

    def test_what_is_refused_changes_nothing(self):
        for seed, task in enumerate(kept_tasks(10)):
            way = Way(task, WAYS[seed % 6])
            way.go(2)
            before = (written(way), way.book().told())
            for deed, thing, kind in ((way.book().take, ("name", (), None), BadPaper),
                                      (way.book().offer, (9,) * 61, BadSteps)):
                with self.assertRaises(kind):
                    deed(thing)
            self.assertEqual((written(way), way.book().told()), before)


if __name__ == "__main__":
    unittest.main()
