"""Ways and rows of ways over tasks that keep their sayings: they end with the least cost, or never."""

import random
import unittest

from seekways.answers import cost_of, is_answer
from seekways.errors import Broken
from seekways.joined import Joined
from seekways.papers import claim, paper_holds
from seekways.rests import Rest
from seekways.ways import WAYS, Way
from seekways.wholes import NEVER, WORDS
from tests.givens import kept_tasks, most_steps
from tests.going import steps_till_over
from tests.makers import answers_of, broken_told, least_cost


def all_ways(task):
    """All ways and some rows of ways of a task, each with how many steps it does at most."""
    for alike in WORDS:
        for word in WAYS[:6]:
            yield Way(task, word, alike=alike), most_steps(task, word)
        for parts in (
            (("deep", 1), ("wide", 2)), (("deepen", 1), ("bounds", 3), ("deepen", 2)), (("branch", 20),),
            (("costs", 1), ("deep", 1), ("wide", 1), ("branch", 1)),
        ):
            yield Joined(task, parts, alike=alike), most_steps(task, "deep")
    if task.ends() is not None:
        yield Way(task, "ends", alike="standing"), most_steps(task, "ends")


class Kept(unittest.TestCase):
    def check_end(self, task, book, least):
        self.assertEqual(book.told(), ("never",) if least is None else ("best", least))
        self.assertIs(paper_holds(task, book.paper()), True)
        self.assertEqual(claim(book.paper()), NEVER if least is None else least)
        if least is None:
            self.assertIsNone(book.answer())
        else:
            self.assertIs(is_answer(task, book.answer()), True)
            self.assertEqual(cost_of(task, book.answer()), least)

    def test_each_ends_with_the_least_cost_or_never(self):
        for task in kept_tasks(50):
            least = least_cost(task)
            for mover, most in all_ways(task):
                self.assertLessEqual(mover.go(1000), most)
                self.assertIs(mover.is_over(), True)
                self.check_end(task, mover.book(), least)

    def test_bounds_never_fall_and_bests_never_rise(self):
        for seed, task in enumerate(kept_tasks(12)):
            least = least_cost(task)
            for mover, most in all_ways(task):
                before = (0, None)
                while not mover.is_over():
                    mover.step()
                    before = self.check_between(task, mover.book(), before, least)

    def check_between(self, task, book, before, least):
        now = (book.bound(), book.best())
        self.assertTrue(now[0] == NEVER or before[0] != NEVER and before[0] <= now[0])
        self.assertTrue(before[1] is None or now[1] <= before[1])
        self.assertIs(paper_holds(task, book.paper()), True)
        self.assertEqual(claim(book.paper()), now[0])
        if least is not None:
            self.assertTrue(now[0] != NEVER and now[0] <= least)
            self.assertTrue(now[1] is None or least <= now[1])
        if now[1] is not None:
            self.assertIs(is_answer(task, book.answer()), True)
            self.assertEqual(cost_of(task, book.answer()), now[1])
        return now


class HandedOver(unittest.TestCase):
    """The books of ways take hints, offers and papers of each other, at any time."""

    def go(self, task, seed):
        rng = random.Random(seed)
        answers = [steps for cost, steps in answers_of(task, 10)]
        movers = [mover for mover, most in all_ways(task)]
        movers = rng.sample(movers, 3)
        for again in range(12):
            one, other = rng.choice(movers), rng.choice(movers)
            by = rng.randrange(5)
            if by == 0:
                one.book().hint(tuple(other.book().standing_of(number) for number in range(other.book().known())))
            elif by == 1 and answers:
                one.book().offer(rng.choice(answers))
            elif by == 2:
                one.book().take(other.book().paper())
            elif by == 3 and not other.book().state_of(0) == ("done",):
                rest = Way(Rest(task, rng.choice(one.book().paper()[1])[0]), "deep")
                rest.go(rng.randrange(4))
                one.book().take(rest.book().paper())
            one.go(rng.randrange(3))
        return movers

    def test_they_still_end_with_the_least_cost(self):
        for seed, task in enumerate(kept_tasks(40)):
            least = least_cost(task)
            for mover in self.go(task, seed):
                steps_till_over(self, mover, most_steps(task, "ends"))
                self.assertEqual(mover.book().told(), ("never",) if least is None else ("best", least))
                self.assertIs(paper_holds(task, mover.book().paper()), True)

    def test_papers_stay_right_where_sayings_may_break(self):
        broken = 0
        for seed in range(120):
            task = broken_told(seed)
            try:
                movers = self.go(task, seed)
            except Broken:
                broken += 1
                continue
            for mover in movers:
                if not mover.book().is_broken():
                    self.assertIs(paper_holds(task, mover.book().paper()), True)
        self.assertGreater(broken, 10)
        self.assertLess(broken, 110)


class Stopped(unittest.TestCase):
    def test_by_one_step_or_by_many_it_is_the_same(self):
        for task in kept_tasks(12):
            for (one, most), (other, same) in zip(all_ways(task), all_ways(task)):
                one.go(1000)
                told = steps_till_over(self, other, most)
                self.assertEqual(one.book().openings(), other.book().openings())
                self.assertEqual(len(told), len(one.book().openings()))


if __name__ == "__main__":
    unittest.main()
