"""Tries of a task: each leaf, answers, the shut part, breaks, and too many of something."""

import unittest
from fractions import Fraction

from seekways.answers import cost_of, is_answer
from seekways.boards import Board
from seekways.errors import Broken, TooMany
from seekways.nets import Net
from seekways.orders import Orders
from seekways.tasks import Task
from seekways.told import Told
from seekways.trees import tree_holds
from seekways.tries import Tries
from tests.givens import kept_tasks
from tests.going import refused_step, refuses_numbers
from tests.helpers import Watched, row
from tests.makers import answers_of, broken_told
from tests.reckoned import fields
from tests.samples import ENDED

# 1 is cut; 2 leads round; 3 is done; 4 leads nowhere.
SMALL = Told((
    row((1, 1), (2, 2), (0, 4)), row((5, 4), cut=True, name=1), row((1, 0), (3, 3), (1, 2), name=2),
    row((1, 0), done=True, name=3), row(cut=True, name=4),
))


def face(tries):
    """All that tries tell that aren't broken."""
    return (tries.leaves(), tries.answers(), tries.shut(), tries.is_over())


def whole_tree(task, cuts):
    """All leaves, each with its cost and its share, by going round otherwise."""
    found = []

    def go(standing, steps, cost, share, way):
        if task.is_done(standing):
            found.append((steps, "done", cost, share))
        elif standing in way:
            found.append((steps, "round", cost, share))
        elif cuts and task.cut(standing):
            found.append((steps, "cut", cost, share))
        elif not task.nexts(standing):
            found.append((steps, "none", cost, share))
        else:
            nexts = task.nexts(standing)
            for step, (price, to) in enumerate(nexts):
                go(to, steps + (step,), cost + price, share / len(nexts), way + (standing,))

    go(task.start(), (), 0, Fraction(1), ())
    return found


class Chain(Task):
    """A line of so many steps; its last standing is done, and one of them breaks its bound."""

    def __init__(self, many, wrong=None):
        self.many = many
        self.wrong = wrong

    def has(self, thing):
        return isinstance(thing, tuple) and len(thing) == 1

    def nexts(self, standing):
        return ((1, (standing[0] + 1,)),)

    def is_done(self, standing):
        return standing[0] == self.many

    def bound(self, standing):
        return 9 if standing[0] == self.wrong else 0


class Comb(Task):
    """Rows of teeth above each other, which end there; some teeth are done, and one row may break its bound."""

    def __init__(self, done, *, width=8, height=9, wrong=None):
        self.done = done
        self.width = width
        self.height = height
        self.wrong = wrong

    def start(self):
        return (0, 0)

    def has(self, thing):
        return isinstance(thing, tuple) and len(thing) == 2

    def nexts(self, standing):
        height, tooth = standing
        if tooth != 0 or height >= self.height:
            return ()
        return tuple((1, (height + 1, at)) for at in range(1, self.width)) + ((1, (height + 1, 0)),)

    def is_done(self, standing):
        return standing[1] in self.done

    def bound(self, standing):
        return 9 if standing == self.wrong else 0


class Leaves(unittest.TestCase):
    def test_each_leaf_without_cuts(self):
        tries = Tries(Watched(SMALL))
        self.assertEqual(face(tries), ((), (), (0, 1), False))
        leaves = [((0, 0), "none"), ((1, 0), "round"), ((1, 1), "done"), ((1, 2), "round"), ((2,), "none")]
        parts = [(1, 3), (4, 9), (5, 9), (2, 3), (1, 1)]
        for many, (leaf, part) in enumerate(zip(leaves, parts), start=1):
            self.assertEqual(tries.step(), leaf)
            self.assertEqual(tries.leaves(), tuple(leaves[:many]))
            self.assertEqual((tries.shut(), tries.is_over()), (part, many == 5))
            self.assertEqual(tries.answers(), (((1, 1), 5),) if many > 2 else ())

    def test_each_leaf_with_cuts(self):
        tries = Tries(Watched(SMALL), cuts=True)
        self.assertEqual([tries.step() for again in range(6)], [
            ((0,), "cut"), ((1, 0), "round"), ((1, 1), "done"), ((1, 2), "round"), ((2,), "cut"), ("over",),
        ])

    def test_behind_the_end(self):
        for cuts in (False, True):
            tries = Tries(SMALL, cuts=cuts)
            tries.go(1000)
            before = face(tries)
            self.assertIs(before[3], True)
            self.assertEqual([tries.step(), tries.go(0), tries.go(5), tries.step()], [("over",), 0, 0, ("over",)])
            self.assertEqual(face(tries), before)

    def test_one_leaf_alone(self):
        for task, why in ((Net(0, ((),), (0,)), "done"), (Task(), "none"), (Told((row(cut=True),)), "cut")):
            tries = Tries(task, cuts=True)
            self.assertIs(tries.is_over(), False)
            self.assertEqual(tries.step(), ((), why))
            self.assertEqual(face(tries), ((((), why),), (((), 0),) if why == "done" else (), (1, 1), True))

    def test_a_start_that_leads_to_itself_alone(self):
        tries = Tries(Net(0, (((3, 0),),), ()))
        self.assertEqual([tries.step(), tries.shut(), tries.step()], [((0,), "round"), (1, 1), ("over",)])

    def test_two_of_one_task_by_turns(self):
        one, other, third = Tries(SMALL), Tries(SMALL, cuts=True), Tries(SMALL)
        for again in range(6):
            said = one.step()
            other.step()
            self.assertEqual(third.step(), said)
        self.assertEqual(face(one), face(third))
        self.assertEqual(len(other.leaves()), 5)

    def test_going_on(self):
        tries = Tries(SMALL)
        self.assertEqual([tries.go(0), tries.go(1), tries.go(2), tries.go(1000), tries.go(1)], [0, 1, 2, 2, 0])
        tries = Tries(SMALL)
        refuses_numbers(self, tries, face)
        tries.go(2)
        refuses_numbers(self, tries, face)
        tries.go(9)
        refuses_numbers(self, tries, face)

    def test_against_going_round_otherwise(self):
        for task in kept_tasks(40):
            for cuts in (False, True):
                found = whole_tree(task, cuts)
                if len(found) > 300 or len([one for one in found if one[1] == "done"]) > 100:
                    continue
                self.check_whole(task, cuts, found)

    def check_whole(self, task, cuts, found):
        tries = Tries(Watched(task), cuts=cuts)
        shut = Fraction(0)
        for many, (steps, why, cost, share) in enumerate(found, start=1):
            self.assertIs(tries.is_over(), False)
            self.assertEqual(tries.step(), (steps, why))
            shut += share
            self.assertEqual(tries.shut(), (shut.numerator, shut.denominator))
            self.assertIs(tries.is_over(), many == len(found))
            self.assertIs(tries.shut() == (1, 1), many == len(found))
        self.assertEqual(tries.step(), ("over",))
        self.assertIs(tree_holds(task, tries.leaves(), cuts=cuts), True)
        self.assertEqual(tries.answers(), tuple((steps, cost) for steps, why, cost, share in found if why == "done"))
        self.assertEqual(sorted((cost, steps) for steps, cost in tries.answers()), sorted(answers_of(task)))
        for steps, cost in tries.answers():
            self.assertIs(is_answer(task, steps), True)
            self.assertEqual(cost_of(task, steps), cost)


class Breaks(unittest.TestCase):
    def check_broken(self, tries, what):
        deeds = [(tries.step,), (tries.go, 0), (tries.go, 5), (tries.go, 1001), (tries.go, None), (tries.leaves,),
                 (tries.answers,), (tries.shut,), (tries.is_over,)]
        for again in range(2):
            for deed in deeds:
                self.assertEqual(fields(refused_step(self, Broken, *deed)), what)

    def test_at_the_start(self):
        tries = Tries(Told((row((0, 1), bound=2), row())))
        self.assertEqual(fields(refused_step(self, Broken, tries.step)), ("bound", (0,), (1,)))
        self.check_broken(tries, ("bound", (0,), (1,)))

    def test_at_a_standing_gone_on_from(self):
        task = Told((row((1, 1), (1, 2)), row(name=1), row((1, 3), (0, 1), name=2, bound=1), row(name=3)))
        tries = Tries(task)
        self.assertEqual(tries.step(), ((0,), "none"))
        self.assertEqual(face(tries), ((((0,), "none"),), (), (1, 2), False))
        self.assertEqual(fields(refused_step(self, Broken, tries.step)), ("bound", (2,), (1,)))
        self.check_broken(tries, ("bound", (2,), (1,)))

    def test_by_going_on(self):
        task = Told((row((1, 1), (1, 2)), row(name=1), row((0, 1), name=2, bound=1)))
        tries = Tries(task)
        self.assertEqual(fields(refused_step(self, Broken, tries.go, 10)), ("bound", (2,), (1,)))
        self.check_broken(tries, ("bound", (2,), (1,)))

    def test_of_each_saying_that_a_look_tells(self):
        cut = Told((row((1, 1)), row((1, 2), name=1, cut=True), row(name=2)))
        tries = Tries(cut)
        self.assertEqual(fields(refused_step(self, Broken, tries.step)), ("cut", (1,), (2,)))
        # With cuts it isn't gone on from.
        self.assertEqual(Tries(cut, cuts=True).go(9), 1)
        ends = Told((row((1, 1)), row(done=True)), ends=(1,), heads=((), ()))
        tries = Tries(ends)
        self.assertEqual(fields(refused_step(self, Broken, tries.step)), ("ends", (0,), (1,)))

    def test_what_is_not_gone_on_from_is_not_looked_at(self):
        # Done with a bound, a cut leaf that breaks, one that leads nowhere with a bound.
        task = Told((row((1, 1), (1, 2), (9, 3)), row(done=True, bound=1, name=1), row((0, 0), cut=True, name=2),
                     row(name=3, bound=9)))
        tries = Tries(task, cuts=True)
        self.assertEqual(tries.go(9), 3)
        self.assertEqual([why for steps, why in tries.leaves()], ["done", "cut", "none"])

    def test_looked_at_just_the_first_time(self):
        class Counted(Watched):
            """How often its ends are asked tells how many looks were made."""

            looks = 0

            def ends(self):
                self.looks += 1
                return None

        # 3 is gone on from twice, by 1 and by 2.
        task = Counted(Told((row((1, 1), (1, 2)), row((1, 3)), row((1, 3)), row((1, 4)), row(done=True))))
        tries = Tries(task)
        self.assertEqual(task.looks, 0)
        tries.step()
        self.assertEqual(task.looks, 3)
        tries.step()
        self.assertEqual(task.looks, 4)

    def test_tasks_that_may_break(self):
        broken = whole = 0
        for seed in range(300):
            tries = Tries(broken_told(seed), cuts=seed % 2 == 0)
            try:
                tries.go(500)
                whole += 1
            except Broken as e:
                broken += 1
                self.check_broken(tries, fields(e))
            except TooMany:
                pass
        self.assertGreater(broken, 20)
        self.assertGreater(whole, 20)


class Many(unittest.TestCase):
    def check_refused(self, tries, most):
        before = face(tries)
        for again in range(2):
            self.assertEqual(refused_step(self, TooMany, tries.step).most, most)
            self.assertEqual(refused_step(self, TooMany, tries.go, 3).most, most)
            self.assertEqual(tries.go(0), 0)
            self.assertEqual(face(tries), before)
        refuses_numbers(self, tries, face)
        self.assertIs(before[3], False)
        return before

    def test_100_answers(self):
        tries = Tries(Orders(((1, 1),) * 5))
        self.assertEqual(tries.go(100), 100)
        leaves, answers, shut, over = self.check_refused(tries, 100)
        self.assertEqual((len(leaves), len(answers), shut), (100, 100, (5, 6)))

    def test_just_100_answers(self):
        tries = Tries(Comb((1, 2, 3), height=33, width=4))
        self.assertEqual(tries.go(1000), 100)
        self.assertEqual((len(tries.answers()), tries.is_over()), (99, True))
        tries = Tries(Comb((1, 2, 3, 4), height=25, width=5))
        self.assertEqual(tries.go(1000), 101)
        self.assertEqual((len(tries.answers()), tries.is_over(), tries.shut()), (100, True, (1, 1)))

    def test_by_going_on_what_was_done_ahead_stays(self):
        tries = Tries(Orders(((1, 1),) * 6))
        self.assertEqual(refused_step(self, TooMany, tries.go, 1000).most, 100)
        self.assertEqual(len(tries.answers()), 100)

    def test_leaves_that_are_no_answers_go_on_beyond_100(self):
        tries = Tries(Board((0,) * 5, 3, ((0, 1, 2, 3, 4),)))
        tries.go(1000)
        self.assertEqual((tries.is_over(), tries.answers()), (True, ()))

    def test_2000_leaves(self):
        # Each row of the wood has eight standings, each of which leads to the next row.
        wood = Told((*[row(*[(1, 8 * (at // 8 + 1) + to) for to in range(8)], name=at) for at in range(16)],
                     *[row((0, 0), (0, 1), (0, 2), (0, 3), name=at) for at in range(16, 24)]))
        tries = Tries(wood)
        self.assertEqual([tries.go(1000), tries.go(999)], [1000, 999])
        self.assertEqual(tries.go(1), 1)
        leaves, answers, shut, over = self.check_refused(tries, 2000)
        self.assertEqual((len(leaves), answers), (2000, ()))

    def test_just_2000_leaves(self):
        class Wood(Task):
            """A start that leads to 250 standings, each of which leads to 8."""

            def __init__(self, many):
                self.many = many

            def nexts(self, standing):
                if standing == (0,):
                    return tuple((1, (1, at)) for at in range(self.many))
                return tuple((1, (2, standing[1], at)) for at in range(8)) if standing[0] == 1 else ()

        tries = Tries(Wood(250))
        self.assertEqual([tries.go(1000), tries.go(1000), tries.go(1000)], [1000, 1000, 0])
        self.assertEqual((tries.is_over(), tries.shut()), (True, (1, 1)))
        tries = Tries(Wood(251))
        self.assertEqual([tries.go(1000), tries.go(1000)], [1000, 1000])
        self.check_refused(tries, 2000)

    def test_60_steps(self):
        tries = Tries(Chain(60))
        self.assertEqual(tries.step(), ((0,) * 60, "done"))
        self.assertEqual((tries.answers(), tries.is_over()), ((((0,) * 60, 60),), True))
        for many in (61, 70, 900):
            self.check_refused(Tries(Chain(many)), 60)

    def test_a_line_without_an_end(self):
        self.check_refused(Tries(Chain(None)), 60)

    def test_what_is_done_after_more_than_60_steps_is_no_answer(self):
        class Long(Comb):
            """As a comb, but its last row begins a line that is done after too many steps."""

            def nexts(self, standing):
                if standing[1] == 0 and standing[0] >= self.height:
                    return ((1, (standing[0] + 1, 0)),)
                return Comb.nexts(self, standing)

            def is_done(self, standing):
                return standing[0] == 100 or Comb.is_done(self, standing)

        tries = Tries(Long((1, 2), width=3, height=50))
        tries.go(100)
        self.assertEqual(len(tries.answers()), 100)
        self.check_refused(tries, 60)

    def test_a_break_goes_ahead_of_60_steps(self):
        for many, wrong in ((61, 0), (61, 59), (61, 60), (70, 65), (900, 899)):
            tries = Tries(Chain(many, wrong))
            what = ("bound", (wrong,), (wrong + 1,))
            for again in range(2):
                self.assertEqual(fields(refused_step(self, Broken, tries.step)), what)

    def test_a_break_goes_ahead_of_100_answers(self):
        tries = Tries(Comb((1, 2, 3, 4), height=26, width=5, wrong=(25, 0)))
        self.assertEqual(tries.go(100), 100)
        self.assertEqual(fields(refused_step(self, Broken, tries.step)), ("bound", (25, 0), (26, 1)))
        tries = Tries(Comb((1, 2, 3, 4), height=26, width=5))
        tries.go(100)
        self.check_refused(tries, 100)

    def test_a_break_goes_ahead_of_2000_leaves(self):
        for wrong in ((50, 0), None):
            tries = Tries(Comb((), width=41, height=51, wrong=wrong))
            self.assertEqual([tries.go(1000), tries.go(1000)], [1000, 1000])
            if wrong is None:
                self.check_refused(tries, 2000)
            else:
                self.assertEqual(fields(refused_step(self, Broken, tries.step)), ("bound", (50, 0), (51, 1)))

    def test_100_goes_ahead_of_2000_and_that_ahead_of_60(self):
        class Both(Comb):
            """As a comb, but its last row's last one begins a line that is too long."""

            def nexts(self, standing):
                if standing[1] == 0 and standing[0] >= self.height:
                    return ((1, (standing[0] + 1, 0)),) if standing[0] < 150 else ()
                return Comb.nexts(self, standing)

        # 50 rows of 40 teeth, of which 2 are done: the next tooth, the 2001st leaf, is done, too.
        tries = Tries(Comb((1, 2), width=41, height=51))
        tries.go(1000)
        tries.go(1000)
        self.assertEqual(len(tries.answers()), 100)
        self.check_refused(tries, 100)
        tries = Tries(Both((), width=41, height=50))
        tries.go(1000)
        tries.go(1000)
        self.check_refused(tries, 2000)
        tries = Tries(Both((1,), width=3, height=50))
        tries.go(100)
        self.check_refused(tries, 60)


class Made(unittest.TestCase):
    def test_what_is_told_is_made_of_tuples(self):
        tries = Tries(ENDED)
        tries.go(3)
        self.assertIs(tries.leaves().__class__, tuple)
        self.assertIs(tries.answers().__class__, tuple)
        self.assertIs(tries.shut().__class__, tuple)


if __name__ == "__main__":
    unittest.main()
