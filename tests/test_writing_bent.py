"""What can't be read: every part of a writing bent, and writings read with another task."""

import unittest

from seekways.boards import Board
from seekways.errors import BadWritten, Broken, TooWide
from seekways.joined import Joined
from seekways.local import Local
from seekways.nets import Net
from seekways.orders import Orders
from seekways.tasks import Task
from seekways.told import Told
from seekways.tries import Tries
from seekways.ways import Way
from seekways.writing import read, written
from tests.going import refused_step
from tests.helpers import ODD, row
from tests.reckoned import fields
from tests.samples import ENDED, NET, TOLD
from tests.test_picks import FORK

PARTS = (("deepen", 2), ("wide", 3))
ROW_0 = ("row", 0)


class Bent(unittest.TestCase):
    def wrong(self, thing, task=FORK):
        before = repr(thing)
        for again in range(2):
            refused_step(self, BadWritten, read, task, thing)
        self.assertEqual(repr(thing), before)

    def bend(self, writing, task=FORK):
        """Each part is put otherwise, left out, and put twice."""
        self.assertEqual(written(read(task, writing)), writing)
        self.wrong(list(writing), task)
        for at in range(len(writing)):
            self.wrong(writing[:at] + writing[at + 1:], task)
            self.wrong(writing[:at] + writing[at:at + 1] + writing[at:], task)
            for thing in ODD:
                if thing.__class__ is not writing[at].__class__ or thing != writing[at]:
                    if not self.may_stand(writing, at, thing):
                        self.wrong(writing[:at] + (thing,) + writing[at + 1:], task)

    def may_stand(self, writing, at, thing):
        """Whether an odd thing is one that may stand there."""
        if writing[0] in ("way", "row") and at == len(writing) - 1:
            return thing == ()
        if writing[0] == "row" and at == 3:
            return thing == (0, None)
        return writing[0] == "tries" and at == 1 and isinstance(thing, bool)

    def test_no_writing(self):
        for thing in (*ODD, 0, "way", ("way",), ("row",), ("tries",), ("local",), ("no", 1),
                      ("Way", "deep", "name", None, ())):
            self.wrong(thing)

    def test_every_part_of_a_way(self):
        self.bend(("way", "deep", "name", None, (ROW_0, ("row", 4))))
        self.bend(("way", "deepen", "turn", 3, (ROW_0, ("row", 2))))
        self.bend(("way", "ends", "standing", None, (("back", (3,)), ROW_0)), ENDED)

    def test_every_part_of_a_row_of_ways(self):
        self.bend(("row", PARTS, "name", (2, None), 1, 2, (ROW_0,)))

    def test_every_part_of_tries(self):
        self.bend(("tries", False, 2))
        self.bend(("tries", True, 1))

    def test_every_part_of_a_local_change(self):
        self.bend(("local", (3, 1)))

    def test_words(self):
        for word in ("no", "Deep", "standing", "row", ("deep",), ["deep"], {"deep": 1}, 0):
            self.wrong(("way", word, "name", None, ()))
        for alike in ("no", "deep", "Name", ("name",), ["name"], {"name": 1}, 0):
            self.wrong(("way", "deep", alike, None, ()))
            self.wrong(("row", PARTS, alike, (2, None), 0, 0, ()))
        for kind in ("rows", "ways", "WAY", "try", ("way",), ["way"], {"way": 1}):
            self.wrong((kind, "deep", "name", None, ()))

    def test_what_way_would_refuse(self):
        self.wrong(("way", "ends", "name", None, ()), ENDED)
        self.wrong(("way", "ends", "turn", None, ()), ENDED)
        self.wrong(("way", "ends", "standing", None, ()), TOLD)
        self.wrong(("way", "ends", "standing", None, ()), Task())

    def test_limits(self):
        for limit in (None, True, False, -1, -2, "2", (2,), [2], {}):
            self.wrong(("way", "deepen", "name", limit, ()))
            self.wrong(("row", PARTS, "name", (limit, None), 0, 0, ()))
        for limit in (0, 1, False, True, -1, "", (), []):
            self.wrong(("way", "deep", "name", limit, ()))
            self.wrong(("row", PARTS, "name", (2, limit), 0, 0, ()))
        for limits in ((), (2,), (2, None, None), [2, None], None, 2, (None, 2), (None, None), {0: 2, 1: None}):
            self.wrong(("row", PARTS, "name", limits, 0, 0, ()))

    def test_limits_from_0_on(self):
        for limit in (0, 1, 2, 3, 10 ** 9):
            for writing in (("way", "deepen", "name", limit, (ROW_0,)),
                            ("row", PARTS, "name", (limit, None), 0, 1, (ROW_0,))):
                self.assertEqual(written(read(FORK, writing)), writing)
        self.assertEqual(read(FORK, ("way", "deepen", "name", 6, (ROW_0,))).step(), ("opened", 4))

    def test_parts(self):
        for parts in ((), (("deep", 0),), (("deep", 21),), (("deep", True),), (("ends", 1),), (("no", 1),),
                      [("deep", 1)],
                      (["deep", 1],), (("deep", 1),) * 5, (("deep",),), (("deep", 1, 1),), None, "deep"):
            many = len(parts) if isinstance(parts, (tuple, list)) else 1
            self.wrong(("row", parts, "name", (None,) * many, 0, 0, ()))

    def test_turns(self):
        for turn, used in ((0, 2), (1, 3), (0, -1), (-1, 0), (2, 0), (True, 0), (False, 0), (0, True), (0, False),
                           (None, 0),
                           (0, None), ("0", 0), (0, "0"), ((0,), 0), (0, (0,)), ([0], 0), (9, 9), (-1, 2), ({}, 0)):
            self.wrong(("row", PARTS, "name", (2, None), turn, used, (ROW_0,)))
        for turn, used in ((0, 0), (0, 1), (1, 0), (1, 2)):
            writing = ("row", PARTS, "name", (2, None), turn, used, (ROW_0,))
            joined = read(FORK, writing)
            self.assertEqual((joined.turn(), written(joined)), ((turn, used), writing))

    def both(self, *openings, task=FORK):
        """These openings can be read neither of a way nor of a row of ways."""
        self.wrong(("way", "deep", "name", None, openings), task)
        self.wrong(("row", PARTS, "name", (2, None), 0, 0, openings), task)

    def test_openings_of_no_form(self):
        for opening in (*ODD, 0, "row", "row 0", ("row",), ("row", 0, 0), ["row", 0], ("row", True), ("row", False),
                        ("row", "0"),
                        ("row", None), ("row", (0,)), ("row", [0]), ("rows", 0), ("opened", 0), (0, "row"), ("row", -1),
                        ("back", 0), ("back", (False,)), ("back", [0]), ("back", ()), ("back", "0"), (["row"], 0),
                        ({}, 0)):
            self.both(opening)
            self.both(ROW_0, opening)
        for openings in (None, "row", 0, [], [ROW_0], {ROW_0: 1}, ROW_0):
            self.wrong(("way", "deep", "name", None, openings))
            self.wrong(("row", PARTS, "name", (2, None), 0, 0, openings))

    def test_rows_that_are_not_known_or_do_not_wait(self):
        self.both(("row", 1))
        self.both(("row", 1), ROW_0)
        self.both(ROW_0, ROW_0)
        self.both(ROW_0, ("row", 6))
        self.both(ROW_0, ("row", 400))
        self.both(ROW_0, ("row", 1), ("row", 1))
        # Row 5, behind 1, is done.
        self.both(ROW_0, ("row", 1), ("row", 5))
        self.both(ROW_0, task=Net(0, ((),), (0,)))
        # By name 2 is like 1.
        task = Told((row((1, 1), (1, 2)), row(name=1), row(name=1)))
        self.both(ROW_0, ("row", 2), task=task)
        self.assertEqual(read(task, ("way", "deep", "standing", None, (ROW_0, ("row", 2)))).book().progress(), (2, 1))

    def test_back_steps_of_what_has_no_back(self):
        for word in ("deep", "deepen"):
            limit = 3 if word == "deepen" else None
            self.wrong(("way", word, "standing", limit, (("back", (3,)),)), ENDED)
        self.wrong(("row", PARTS, "standing", (3, None), 0, 0, (("back", (3,)),)), ENDED)

    def test_back_steps_that_would_settle_another_one(self):
        def bent(*openings):
            self.wrong(("way", "ends", "standing", None, openings), ENDED)

        back = [("back", (at,)) for at in range(5)]
        whole = (back[3], back[2], back[1], back[0])
        self.assertEqual(written(read(ENDED, ("way", "ends", "standing", None, whole)))[4], whole)
        bent(back[2])
        bent(back[4])
        bent(back[3], back[3])
        bent(back[3], back[1])
        bent(back[3], back[0], back[2])
        bent(*whole, back[0])
        bent(("back", (3, 0)))
        bent(("forth", (3,)))
        bent(("row", (3,)))
        bent(ROW_0, back[2])

    def test_another_one_goes_ahead_of_a_break(self):
        # The end is settled first, and that breaks.
        task = Told((row((1, 1)), row(done=True, name=1)), ends=(1,), heads=((), ((1, 0), (2, 0))))
        writing = ("way", "ends", "standing", None, (("back", (0,)),))
        self.wrong(writing, task)
        writing = ("way", "ends", "standing", None, (("back", (1,)),))
        self.assertEqual(fields(refused_step(self, Broken, read, task, writing)), ("ahead", (1,), (0,)))

    def test_leaves_that_are_not_there(self):
        tries = Tries(FORK)
        many = tries.go(1000)
        self.assertEqual(written(read(FORK, ("tries", False, many))), ("tries", False, many))
        self.wrong(("tries", False, many + 1))
        self.wrong(("tries", False, 10 ** 9))
        for number in (-1, True, False, None, "1", (1,), [1], {}):
            self.wrong(("tries", False, number))
        for cuts in (0, 1, None, "False", (), (False,), []):
            self.wrong(("tries", cuts, 0))

    def test_leaves_beyond_too_many(self):
        task = Orders(((1, 1),) * 5)
        self.assertEqual(len(read(task, ("tries", False, 100)).leaves()), 100)
        self.wrong(("tries", False, 101), task)
        self.wrong(("tries", False, 102), task)

    def test_numbers_of_a_local_change(self):
        for numbers in (*ODD, 0, [1, 2], (8,), (0, -1), (True,), (0,) * 13):
            self.wrong(("local", numbers))
        self.assertEqual(read(FORK, ("local", (0,) * 12)).numbers(), (0,) * 12)


class OverAnotherTask(unittest.TestCase):
    # The start breaks its bound; 1 breaks its.
    START = Told((row((0, 1), bound=2), row(name=1)))
    LATER = Told((row((1, 1), (1, 2)), row((0, 2), name=1, bound=1), row(name=2)))
    AT_ONCE = Told((row(done=True, bound=2),))

    def broken(self, task, writing, what):
        for again in range(2):
            self.assertEqual(fields(refused_step(self, Broken, read, task, writing)), what)

    def writings(self, *openings):
        return [("way", "wide", "name", None, openings), ("row", PARTS, "name", (2, None), 0, 0, openings)]

    def test_a_break_is_told_as_such(self):
        for writing in self.writings(ROW_0):
            self.broken(self.START, writing, ("bound", (0,), (1,)))
        for writing in self.writings(ROW_0, ("row", 2), ("row", 1)):
            self.broken(self.LATER, writing, ("bound", (1,), (2,)))
        for writing in self.writings():
            self.broken(self.AT_ONCE, writing, ("bound", (0,), (0,)))
        self.broken(self.START, ("tries", False, 1), ("bound", (0,), (1,)))
        self.assertEqual(read(self.START, ("tries", False, 0)).cuts, False)
        self.assertEqual(read(self.START, ("local", (0,))).numbers(), (0,))

    def test_form_and_words_go_first(self):
        for task in (self.AT_ONCE, self.START):
            for bad in (("row", True), "row", ("no", 0), ("row", -1), ("back", (None,))):
                for writing in self.writings(ROW_0, bad):
                    refused_step(self, BadWritten, read, task, writing)
            refused_step(self, BadWritten, read, task, ("way", "deepen", "name", None, (ROW_0,)))
            refused_step(self, BadWritten, read, task, ("way", "deep", "no", None, (ROW_0,)))
            refused_step(self, BadWritten, read, task, ("way", "ends", "standing", None, (ROW_0,)))
            refused_step(self, BadWritten, read, task, ("row", PARTS, "name", (2, None), 0, 2, (ROW_0,)))
            refused_step(self, BadWritten, read, task, ("tries", 0, 1))

    def test_openings_one_by_one(self):
        # What can't be made stands behind the break, then ahead of it.
        for writing in self.writings(ROW_0, ("row", 9)):
            self.broken(self.START, writing, ("bound", (0,), (1,)))
        for writing in self.writings(ROW_0, ("row", 9), ("row", 1)):
            refused_step(self, BadWritten, read, self.LATER, writing)
        for writing in self.writings(("row", 9)):
            self.broken(self.AT_ONCE, writing, ("bound", (0,), (0,)))
        self.broken(self.START, ("tries", False, 99), ("bound", (0,), (1,)))

    def test_too_wide(self):
        task = Board((0,) * 9, 4, ())
        way = Way(task, "wide", alike="standing")
        refused_step(self, TooWide, way.go, 1000)
        kind, word, alike, limit, openings = written(way)
        for behind in ((("row", 99),), (("row", 99), ("row", 0)), (("row", 101),)):
            writing = (kind, word, alike, limit, openings + behind)
            self.assertEqual(refused_step(self, TooWide, read, task, writing).most, 400)
            writing = ("row", PARTS, alike, (2, None), 0, 0, openings + behind)
            self.assertEqual(refused_step(self, TooWide, read, task, writing).most, 400)
        refused_step(self, BadWritten, read, task, (kind, word, alike, limit, openings + (("row", 0), ("row", 99))))

    def test_what_cannot_be_made_there(self):
        way = Way(FORK, "deep")
        way.go(3)
        refused_step(self, BadWritten, read, Task(), written(way))
        refused_step(self, BadWritten, read, Net(0, ((),), (0,)), written(way))
        ends = Way(NET, "ends", alike="standing")
        ends.go(4)
        refused_step(self, BadWritten, read, Net(0, (((1, 1),), ()), (1,)), written(ends))
        joined = Joined(FORK, PARTS)
        joined.go(3)
        refused_step(self, BadWritten, read, Task(), written(joined))
        tries = Tries(FORK)
        tries.go(3)
        refused_step(self, BadWritten, read, Task(), written(tries))
        self.assertEqual(read(Task(), written(Local(FORK, (3, 4)))).numbers(), (3, 4))


if __name__ == "__main__":
    unittest.main()
