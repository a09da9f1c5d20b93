"""Edits of told tasks, and ways carried over to another task."""

import unittest

from seekways.boards import Board
from seekways.edits import carried, edited
from seekways.errors import BadEdit, BadWay, Broken, TooWide
from seekways.nets import Net
from seekways.rests import Rest
from seekways.told import Told
from seekways.ways import WAYS, Way
from seekways.wholes import WORDS
from tests.going import look_of, refused_step, steps_till_over
from tests.helpers import ODD, row
from tests.makers import kept_told, least_cost
from tests.reckoned import fields, refused
from tests.samples import ENDED, NET, TOLD
from tests.test_picks import FORK

ROWS = (row((2, 1), (5, 2), name=4, bound=3), row((1, 2), name=1, bound=1), row(done=True, name=2))
TASK = Told(ROWS, turns=((0, 1, 2), (0, 2, 1)), ends=(2,), heads=((), ((2, 0),), ((5, 0), (1, 1))))
FULL = Told((row(*[(at, 0) for at in range(8)]), row(name=1)))


def put(at, **parts):
    """The table with some fields of a row put otherwise."""
    fields = dict(zip(("nexts", "done", "name", "bound", "cut"), ROWS[at]))
    fields.update(parts)
    return ROWS[:at] + (tuple(fields.values()),) + ROWS[at + 1:]


class Edits(unittest.TestCase):
    def check(self, edit, table):
        made = edited(TASK, edit)
        self.assertIs(made.__class__, Told)
        self.assertEqual(made, Told(table, turns=TASK.maps, ends=TASK.targets, heads=TASK.heads))
        self.assertEqual(TASK.table, ROWS)
        self.assertIsNot(made, TASK)

    def test_cost(self):
        self.check(("cost", 0, 0, 9), put(0, nexts=((9, 1), (5, 2))))
        self.check(("cost", 0, 1, 0), put(0, nexts=((2, 1), (0, 2))))
        self.check(("cost", 1, 0, 1000), put(1, nexts=((1000, 2),)))

    def test_to(self):
        self.check(("to", 0, 0, 2), put(0, nexts=((2, 2), (5, 2))))
        self.check(("to", 0, 1, 0), put(0, nexts=((2, 1), (5, 0))))
        self.check(("to", 1, 0, 1), put(1, nexts=((1, 1),)))

    def test_add(self):
        self.check(("add", 0, 7, 0), put(0, nexts=((2, 1), (5, 2), (7, 0))))
        self.check(("add", 2, 0, 2), put(2, nexts=((0, 2),)))
        self.check(("add", 1, 1000, 1), put(1, nexts=((1, 2), (1000, 1))))

    def test_drop(self):
        self.check(("drop", 0, 0), put(0, nexts=((5, 2),)))
        self.check(("drop", 0, 1), put(0, nexts=((2, 1),)))
        self.check(("drop", 1, 0), put(1, nexts=()))

    def test_fields(self):
        for at in range(3):
            for truth in (False, True):
                self.check(("done", at, truth), put(at, done=truth))
                self.check(("cut", at, truth), put(at, cut=truth))
            for name in (0, 7, 99):
                self.check(("name", at, name), put(at, name=name))
            for bound in (0, 3, 100000):
                self.check(("bound", at, bound), put(at, bound=bound))

    def test_without_turns_and_ends(self):
        plain = Told(ROWS)
        self.assertEqual(edited(plain, ("drop", 1, 0)), Told(put(1, nexts=())))

    def test_eight_nexts_and_one_more(self):
        seven = edited(FULL, ("drop", 0, 7))
        self.assertEqual(edited(seven, ("add", 0, 7, 0)), FULL)
        refused_step(self, BadEdit, edited, FULL, ("add", 0, 1, 1))

    def test_one_behind_the_other(self):
        task = TASK
        for edit in (("add", 2, 3, 0), ("done", 2, False), ("done", 0, True), ("to", 2, 0, 1)):
            task = edited(task, edit)
        self.assertEqual(task.table, (
            row((2, 1), (5, 2), done=True, name=4, bound=3), row((1, 2), name=1, bound=1), row((3, 1), name=2),
        ))


class Refused(unittest.TestCase):
    def wrong(self, *edits):
        for edit in edits:
            before = repr(edit)
            for again in range(2):
                refused_step(self, BadEdit, edited, TASK, edit)
            self.assertEqual(repr(edit), before)
        self.assertEqual(TASK.table, ROWS)

    def test_no_edit(self):
        self.wrong(*ODD, 0, "cost", ("cost",), ("cost", 0), ("no", 0, 0), ("no", 0, 0, 0), ("nexts", 0, ()),
                   ("nexts", 0, ((1, 1),)),
                   ["cost", 0, 0, 1], ("Cost", 0, 0, 1), (["cost"], 0, 0, 1), ({}, 0, 0, 1), (None, 0, 0), (0, 0, 0, 0),
                   (("cost",), 0, 0, 1), {"cost": 1})

    def test_too_short_or_too_long(self):
        self.wrong(("cost", 0, 0), ("cost", 0, 0, 1, 1), ("to", 0, 0), ("to", 0, 0, 1, 1), ("add", 0, 1),
                   ("add", 0, 1, 1, 1),
                   ("drop", 0), ("drop", 0, 0, 0), ("done", 0), ("done", 0, True, True), ("name", 0), ("name", 0, 1, 1),
                   ("bound", 0), ("bound", 0, 1, 1), ("cut", 0), ("cut", 0, True, True))

    def test_rows_that_are_not_there(self):
        for at in (-1, 3, 24, True, False, None, "0", (0,), [0], {}):
            self.wrong(("cost", at, 0, 1), ("to", at, 0, 1), ("add", at, 1, 1), ("drop", at, 0), ("done", at, True),
                       ("name", at, 1), ("bound", at, 1), ("cut", at, True))

    def test_rows_that_are_not_there_without_turns(self):
        for edit in (("add", -1, 1, 1), ("done", -1, True), ("add", -3, 1, 1), ("name", -1, 3)):
            refused_step(self, BadEdit, edited, Told(ROWS), edit)

    def test_nexts_that_are_not_there(self):
        for at in (-1, 2, 8, True, False, None, "0", (0,), [0], {}):
            self.wrong(("cost", 0, at, 1), ("to", 0, at, 1), ("drop", 0, at))
        self.wrong(("cost", 1, 1, 1), ("to", 1, 1, 1), ("drop", 1, 1), ("cost", 2, 0, 1), ("to", 2, 0, 1),
                   ("drop", 2, 0))

    def test_costs_and_rows(self):
        for cost in (-1, 1001, True, False, None, "1", (1,), [1], {}):
            self.wrong(("cost", 0, 0, cost), ("add", 0, cost, 1))
        for to in (-1, 3, True, False, None, "1", (1,), [1], {}):
            self.wrong(("to", 0, 0, to), ("add", 0, 1, to))

    def test_fields(self):
        for thing in (0, 1, None, "True", (), (True,), [], {}):
            self.wrong(("done", 0, thing), ("cut", 0, thing))
        for thing in (-1, True, False, None, "1", (1,), [1], {}):
            self.wrong(("name", 0, thing), ("bound", 0, thing))
        self.wrong(("name", 0, 100), ("bound", 0, 100001))


class Carried(unittest.TestCase):
    def opened(self, way):
        book = way.book()
        return [book.standing_of(of) for word, of in book.openings() if word == "row"]

    def test_to_the_same_task(self):
        for word in WAYS[:6]:
            for alike in WORDS:
                way = Way(FORK, word, alike=alike)
                way.go(3)
                before = look_of(way)
                made = carried(way, FORK)
                self.assertIs(made.__class__, Way)
                self.assertEqual((made.kind(), made.book().alike()), (word, alike))
                # As one hint: each time the first that waits, so the order may be another one.
                self.assertEqual(sorted(self.opened(made)), sorted(self.opened(way)))
                self.assertEqual(look_of(way), before)
                self.assertIsNot(made.book(), way.book())

    def test_in_order_as_one_hint(self):
        # 3 was opened first here; over there it comes to be known only behind 2.
        one = Told((row((1, 1), (1, 2), (1, 3)), *[row(name=at) for at in (1, 2, 3)]))
        other = Told((row((1, 1), (1, 2)), row(name=1), row((1, 3), name=2), row(name=3)))
        way = Way(one, "deep")
        way.go(4)
        self.assertEqual(self.opened(way), [(0,), (3,), (2,), (1,)])
        self.assertEqual(self.opened(carried(way, other)), [(0,), (2,), (3,), (1,)])

    def test_the_limit_is_not_carried(self):
        way = Way(FORK, "deepen")
        way.go(1000)
        self.assertEqual((way.limit(), carried(way, FORK).limit()), (3, 2))

    def test_to_an_edited_one(self):
        way = Way(FORK, "bounds")
        way.go(1000)
        self.assertEqual(way.book().told(), ("best", 4))
        cheaper = edited(FORK, ("cost", 0, 3, 2))
        made = carried(way, cheaper)
        self.assertEqual(self.opened(made), self.opened(way))
        self.assertEqual(made.book().told(), ("open", 2, 4))
        made.go(1000)
        self.assertEqual(made.book().told(), ("best", 2))
        done = edited(FORK, ("done", 0, True))
        self.assertEqual(edited(done, ("bound", 0, 0)).table[0][3], 0)
        self.assertEqual(carried(way, edited(done, ("bound", 0, 0))).book().told(), ("best", 0))

    def test_a_way_that_opened_nothing(self):
        made = carried(Way(FORK, "deep"), TOLD)
        self.assertEqual(look_of(made), look_of(Way(TOLD, "deep")))

    def test_a_broken_one(self):
        task = Told((row((1, 1), (1, 2)), row(name=1), row((0, 1), name=2, bound=1)))
        way = Way(task, "wide")
        refused_step(self, Broken, way.go, 9)
        self.assertEqual(self.opened(way), [(0,), (1,)])
        made = carried(way, edited(task, ("bound", 2, 0)))
        self.assertEqual((self.opened(made), made.book().is_broken()), ([(0,), (1,)], False))
        self.assertIs(way.book().is_broken(), True)
        self.assertEqual(self.opened(carried(way, task)), [(0,), (1,)])

    def test_by_ends_without_the_back_steps(self):
        way = Way(NET, "ends", alike="standing")
        way.go(4)
        self.assertEqual([word for word, of in way.book().openings()], ["back", "row", "back", "row"])
        made = carried(way, NET)
        self.assertEqual((made.kind(), self.opened(made)), ("ends", self.opened(way)))
        self.assertEqual([word for word, of in made.book().openings()], ["row", "row"])
        self.assertEqual(made.book().back_told(), (0, ()))

    def test_refused(self):
        way = Way(NET, "ends", alike="standing")
        way.go(2)
        before = look_of(way)
        self.assertEqual(refused_step(self, BadWay, carried, way, TOLD).word, ("ends",))
        self.assertEqual(look_of(way), before)

    def test_to_a_task_that_breaks_a_saying(self):
        way = Way(FORK, "wide")
        way.go(2)
        before = look_of(way)
        broken = edited(FORK, ("bound", 1, 2))
        self.assertEqual(fields(refused_step(self, Broken, carried, way, broken)), ("bound", (1,), (5,)))
        start = edited(edited(FORK, ("done", 0, True)), ("bound", 0, 2))
        self.assertEqual(fields(refused_step(self, Broken, carried, way, start)), ("bound", (0,), (0,)))
        self.assertEqual(look_of(way), before)

    def test_to_one_that_is_too_wide(self):
        task = Board((0,) * 9, 4, ())
        way = Way(Rest(task, (4,) + (0,) * 8), "wide", alike="standing")
        way.go(99)
        wide = Way(task, "wide", alike="standing")
        wide.go(80)
        # What both opened together is too much for one book.
        wide.book().hint(tuple(self.opened(way)[:8]))
        refused(self, wide.book(), TooWide, wide.book().hint, tuple(self.opened(way)))
        other = Way(Board((0,) * 9, 3, ()), "wide", alike="standing")
        refused_step(self, TooWide, other.go, 1000)
        self.assertEqual(refused_step(self, TooWide, carried, other, task).most, 400)

    def test_carried_ways_end_with_the_least_cost(self):
        for seed in range(40):
            way = Way(kept_told(seed), WAYS[seed % 6], alike=WORDS[seed % 3])
            way.go(seed % 7)
            task = kept_told(seed + 1)
            made = carried(way, task)
            steps_till_over(self, made, 50)
            least = least_cost(task)
            self.assertEqual(made.book().told(), ("never",) if least is None else ("best", least))

    def test_to_tasks_with_other_standings(self):
        way = Way(FORK, "deep")
        way.go(3)
        self.assertEqual(self.opened(carried(way, Board((0, 0), 2, ()))), [])
        self.assertEqual(self.opened(carried(way, Net(3, ((), (), (), ((1, 4),), ()), (2,)))), [(3,), (4,)])


if __name__ == "__main__":
    unittest.main()
