"""The desk: what each row does and tells, and with which word it is refused."""

import unittest

from seekways.desk import Desk
from seekways.errors import NoRow
from seekways.told import Told
from seekways.ways import WAYS
from tests.desks import TASKS, desk_with, task_rows, told
from tests.helpers import row
from tests.test_picks import FORK


class Rows(unittest.TestCase):
    def check(self, desk, *pairs):
        """Each row, with what it tells."""
        for one, text in pairs:
            self.assertEqual(desk.run(one), (text,), one)

    def test_task_and_way(self):
        desk = desk_with("fork", "ended")
        for number, word in enumerate(WAYS[:6]):
            self.check(desk, (f"way {word} of fork by {word}", "done"), (f"tell {word}", "open 2"))
        self.check(desk, ("way ends of ended by ends alike standing", "done"),
                   ("way t of ended by wide alike turn", "done"))
        self.check(desk, ("progress ends", "0 shut 1 waiting"), ("go ends 1", "1 steps"),
                   ("progress ends", "0 shut 1 waiting"),
                   ("go ends 1", "1 steps"), ("progress ends", "2 shut 1 waiting"))

    def test_go_tell_and_progress_at_each_state(self):
        desk = desk_with("fork")
        self.check(desk, ("way a of fork by branch", "done"), ("tell a", "open 2"), ("progress a", "0 shut 1 waiting"))
        self.check(desk, ("go a 0", "0 steps"), ("go a 1", "1 steps"), ("tell a", "open 2"),
                   ("progress a", "1 shut 4 waiting"))
        self.check(desk, ("go a 1", "1 steps"), ("tell a", "open 2 best 6"), ("progress a", "3 shut 3 waiting"))
        self.check(desk, ("go a 1000", "2 steps"), ("tell a", "best 4: 0 0"), ("progress a", "5 shut 1 waiting"),
                   ("go a 5", "0 steps"))
        self.check(desk, ("tell a", "best 4: 0 0"))

    def test_never_and_best_at_once(self):
        desk = desk_with("nowhere", "atonce")
        self.check(desk, ("way n of nowhere by deep", "done"), ("tell n", "open 0"), ("go n 9", "2 steps"),
                   ("tell n", "never"))
        self.check(desk, ("progress n", "2 shut 0 waiting"))
        self.check(desk, ("way b of atonce by deep", "done"), ("tell b", "best 0:"), ("go b 9", "0 steps"),
                   ("progress b", "1 shut 0 waiting"))

    def test_broken(self):
        desk = desk_with("breaks")
        self.check(desk, ("way a of breaks by deep", "done"), ("go a 1", "1 steps"), ("go a 1", "refused Broken"),
                   ("tell a", "broken bound at 2"), ("progress a", "1 shut 2 waiting"), ("go a 1", "0 steps"),
                   ("tell a", "broken bound at 2"))
        # What was done ahead of the break stays.
        self.check(desk, ("way b of breaks by wide", "done"), ("go b 9", "2 steps"), ("tell b", "best 2: 0 0"))
        self.check(desk, ("way c of breaks by deep", "done"), ("go c 9", "refused Broken"),
                   ("progress c", "1 shut 2 waiting"))

    def test_an_answer_that_breaks(self):
        # By name 2 is like 1, and behind 2 stands 5, which has 4's name, but is otherwise; only the answer comes to it.
        task = Told((
            row((1, 3)), row((1, 4), name=1), row((1, 5), name=1), row((9, 1), (1, 2), name=3), row((1, 6), name=4),
            row((2, 6), name=4), row(done=True, name=6),
        ))
        desk = Desk()
        rows = [f"way {name} of t by wide" for name in ("a", "b")] + [f"go {name} 9" for name in ("a", "b")]
        self.assertEqual(desk.run(task_rows("t", task) + "\n".join(rows)),
                         ("done", "done", "done", "4 steps", "4 steps"))
        # The way goes 0, 3, 2, 5; the book's rows are 0, 3, 1, 4.
        self.check(desk, ("way o of t by deep", "done"), ("offer o from b", "refused Broken"),
                   ("tell b", "broken name at 5"),
                   ("tell o", "open 0"), ("tell a", "refused Broken"), ("tell a", "broken name at 5"),
                   ("write a", "refused Broken"))

    def test_hint(self):
        desk = desk_with("fork", "ended", "breaks")
        told(desk, "way a of fork by deep", "way b of fork by wide", "go a 3")
        self.check(desk, ("hint b from a", "3 opened"), ("progress b", "4 shut 2 waiting"),
                   ("hint b from a", "0 opened"),
                   ("hint a from a", "0 opened"), ("hint a from b", "0 opened"))
        self.check(desk, ("way e of ended by ends alike standing", "done"), ("go e 4", "4 steps"),
                   ("way c of ended by deep", "done"),
                   ("hint c from e", "2 opened"))
        # Of a broken way, too, but not to one.
        told(desk, "way x of breaks by deep", "go x 9", "way y of breaks by deep")
        self.check(desk, ("hint y from x", "1 opened"), ("hint x from y", "refused Broken"),
                   ("hint x from x", "refused Broken"))
        # What the hint meets breaks the way, and all its rows are as they were.
        told(desk, "way f of fork by deep", "go f 4", "way z of breaks by deep")
        self.check(desk, ("hint z from f", "refused Broken"), ("tell z", "broken bound at 2"),
                   ("progress z", "0 shut 1 waiting"))

    def test_offer(self):
        desk = desk_with("fork", "breaks")
        told(desk, "way a of fork by deep", "way b of fork by wide")
        self.check(desk, ("offer b from a", "refused BadSteps"), ("go a 2", "2 steps"), ("offer b from a", "best 6"),
                   ("tell b", "open 2 best 6"), ("offer a from a", "best 6"))
        told(desk, "go a 1000")
        self.check(desk, ("offer b from a", "best 4"), ("tell b", "open 2 best 4"))
        # An answer that is none there.
        told(desk, "way c of breaks by wide", "way d of fork by deep", "go d 2")
        self.check(desk, ("offer c from d", "refused BadSteps"), ("tell c", "open 0"))

    def test_offer_of_and_to_broken_ways(self):
        desk = desk_with("fork", "breaks")
        told(desk, "way x of breaks by deep", "go x 9", "way a of fork by deep", "way y of breaks by wide", "go y 9")
        self.check(desk, ("offer a from x", "refused Broken"), ("tell a", "open 2"),
                   ("offer x from x", "refused Broken"))
        # a has no answer; y has one that is right for x; both are refused by x's break.
        self.check(desk, ("offer x from a", "refused Broken"), ("offer x from y", "refused Broken"))
        self.check(desk, ("offer y from x", "refused Broken"), ("tell y", "best 2: 0 0"),
                   ("offer y from a", "refused BadSteps"))

    def test_offer_without_a_best(self):
        # 1 is cut, so its row isn't opened, though the answer goes along it.
        task = Told((row((1, 1)), row((1, 2), cut=True, name=1), row(done=True, name=2)))
        plain = Told((row((1, 1)), row((1, 2), name=1), row(done=True, name=2)))
        desk = Desk()
        desk.run(task_rows("cut", task) + task_rows("plain", plain))
        told(desk, "way a of plain by deep", "go a 9", "way b of cut by deep")
        self.check(desk, ("tell a", "best 2: 0 0"), ("offer b from a", "refused Broken"), ("tell b", "broken cut at 1"))
        desk = Desk()
        task = Told((row((1, 1)), row((1, 2), cut=True, name=1), row((1, 3), cut=True, name=2), row(done=True, name=3)))
        plain = Told((row((1, 1)), row((1, 2), name=1), row((1, 3), name=2), row(done=True, name=3)))
        desk.run(task_rows("cut", task) + task_rows("plain", plain))
        told(desk, "way a of plain by deep", "go a 9", "way b of cut by deep")
        self.check(desk, ("offer b from a", "no best"), ("tell b", "never"))

    def test_take(self):
        desk = desk_with("fork", "ended", "breaks")
        told(desk, "way a of fork by deep", "way b of fork by wide", "go a 3")
        self.check(desk, ("take b from a", "3 opened"), ("take b from a", "0 opened"),
                   ("progress b", "4 shut 2 waiting"))
        told(desk, "way c of ended by deep", "way x of breaks by deep", "go x 9")
        self.check(desk, ("take c from a", "refused BadPaper"), ("take a from x", "refused Broken"),
                   ("take x from a", "refused Broken"),
                   ("take x from x", "refused Broken"), ("take a from a", "0 opened"))

    def test_write_and_read(self):
        desk = desk_with("fork")
        told(desk, "way a of fork by deepen", "go a 2")
        self.check(desk, ("read a", "refused NoName"), ("write a", "done"), ("progress a", "3 shut 3 waiting"),
                   ("go a 9", "1 steps"),
                   ("tell a", "best 4: 0 0"), ("read a", "done"), ("progress a", "3 shut 3 waiting"),
                   ("tell a", "open 3 best 6"),
                   ("read a", "done"), ("go a 9", "1 steps"), ("write a", "done"), ("read a", "done"),
                   ("tell a", "best 4: 0 0"))

    def test_what_was_written_last(self):
        desk = desk_with("breaks")
        told(desk, "way a of breaks by deep", "write a", "go a 1", "write a", "go a 1")
        # A broken one isn't written; what was written ahead of that stays, and can be read.
        self.check(desk, ("tell a", "broken bound at 2"), ("write a", "refused Broken"), ("read a", "done"),
                   ("tell a", "open 1"),
                   ("progress a", "1 shut 2 waiting"), ("go a 1", "refused Broken"))

    def test_read_goes_on_with_the_task_that_it_was_written_over(self):
        desk = desk_with("fork", "ended")
        told(desk, "way a of fork by wide", "go a 1", "write a", "drop fork")
        self.check(desk, ("read a", "done"), ("go a 9", "2 steps"), ("tell a", "best 4: 0 0"))
        desk.run(task_rows("fork", TASKS["nowhere"]))
        self.check(desk, ("read a", "done"), ("go a 9", "2 steps"), ("tell a", "best 4: 0 0"))
        self.check(desk, ("carry a to ended", "done"), ("progress a", "4 shut 0 waiting"), ("tell a", "best 3: 0 0 0"),
                   ("read a", "done"), ("progress a", "1 shut 4 waiting"), ("carry a to fork", "done"),
                   ("tell a", "open 1"),
                   ("write a", "done"), ("go a 9", "1 steps"), ("tell a", "never"), ("read a", "done"),
                   ("tell a", "open 1"))

    def test_carry(self):
        desk = desk_with("fork", "ended", "breaks", "start")
        told(desk, "way a of fork by deep", "go a 2", "way e of ended by ends alike standing", "go e 3")
        self.check(desk, ("carry a to fork", "done"), ("progress a", "3 shut 3 waiting"),
                   ("carry e to fork", "refused BadWay"),
                   ("carry a to start", "refused Broken"), ("tell a", "open 2 best 6"),
                   ("progress a", "3 shut 3 waiting"))
        told(desk, "way x of breaks by wide", "go x 1", "way b of fork by costs", "go b 2")
        # b opened 0 and 2, which breaks there; b stays as it was.
        self.check(desk, ("carry b to breaks", "refused Broken"), ("progress b", "3 shut 3 waiting"),
                   ("tell b", "open 3 best 6"))
        told(desk, "way y of breaks by deep", "go y 9")
        self.check(desk, ("tell y", "broken bound at 2"), ("carry y to breaks", "done"), ("tell y", "open 1"))

    def test_drop(self):
        desk = desk_with("fork")
        told(desk, "way a of fork by deep", "write a")
        self.check(desk, ("drop a", "done"), ("tell a", "refused NoName"), ("drop a", "refused NoName"),
                   ("read a", "refused NoName"))
        self.check(desk, ("way a of fork by wide", "done"), ("read a", "refused NoName"), ("drop fork", "done"),
                   ("drop fork", "refused NoName"))
        # Ways of a dropped task go on.
        self.check(desk, ("go a 9", "3 steps"), ("tell a", "best 4: 0 0"), ("way b of fork by deep", "refused NoName"))

    def test_a_dropped_name_may_be_given_again(self):
        desk = desk_with("fork")
        told(desk, "way a of fork by deep", "drop a")
        self.assertEqual(desk.run(task_rows("a", FORK) + "way b of a by deep\ndrop a\nway a of fork by deep\n"),
                         ("done",) * 4)


class Refused(unittest.TestCase):
    def check(self, desk, word, *rows):
        for one in rows:
            before = self.face(desk)
            self.assertEqual(desk.run(one), (f"refused {word}",), one)
            self.assertEqual(self.face(desk), before, one)

    def face(self, desk):
        names = ("a", "b", "x")
        return [desk.run(f"{word} {name}") for word in ("tell", "progress") for name in names]

    def made(self):
        desk = desk_with("fork", "ended", "start")
        told(desk, "way a of fork by deep", "way b of ended by wide", "go a 2")
        return desk

    def test_names_that_are_not_there(self):
        desk = self.made()
        self.check(desk, "NoName", "go no 5", "tell no", "progress no", "hint no from a", "hint a from no",
                   "offer no from a",
                   "offer a from no", "take no from a", "take a from no", "write no", "read no", "carry no to fork",
                   "carry a to no",
                   "drop no", "way c of no by deep", "read a", "hint no from no", "carry no to no")

    def test_a_name_of_the_other_kind(self):
        desk = self.made()
        self.check(desk, "NoName", "go fork 5", "tell fork", "progress fork", "hint fork from a", "hint a from fork",
                   "offer a from fork",
                   "offer fork from a", "take a from fork", "take fork from a", "write fork", "read fork",
                   "carry fork to fork",
                   "carry a to b", "way c of a by deep")

    def test_names_that_are_there_already(self):
        desk = self.made()
        for name in ("a", "fork"):
            self.check(desk, "NoName", f"way {name} of fork by deep", task_rows(name, FORK), f"task {name}",
                       f"way {name} of no by no")

    def test_eight_tasks(self):
        desk = Desk()
        names = ["a", "b", "c", "d", "e", "f", "g", "h"]
        self.assertEqual(desk.run("".join(task_rows(name, FORK) for name in names)), ("done",) * 8)
        self.assertEqual(desk.run(task_rows("i", FORK) + "way i of a by deep\ndrop h\n" + task_rows("k", FORK)),
                         ("refused NoName", "done", "done", "done"))
        self.assertEqual(desk.run(task_rows("l", FORK)), ("refused NoName",))

    def test_eight_ways(self):
        desk = desk_with("fork")
        for name in "abcdefgh":
            self.assertEqual(desk.run(f"way {name} of fork by deep"), ("done",))
        self.assertEqual(told(desk, "way i of fork by deep", "way i of fork by no", "drop c", "way i of fork by deep",
                              "way c of fork by deep", "write a", "read a", "carry a to fork"),
                         ["refused NoName", "refused NoName", "done", "done", "refused NoName", "done", "done", "done"])
        # Tasks are counted for themselves.
        self.assertEqual(desk.run(task_rows("t", FORK)), ("done",))

    def test_words_that_are_none(self):
        desk = self.made()
        self.check(desk, "BadWay", "way c of fork by no", "way c of fork by deep alike no", "way c of fork by standing",
                   "way c of fork by deep alike deep", "way c of fork by ends", "way c of fork by ends alike standing",
                   "way c of ended by ends", "way c of ended by ends alike name", "way c of ended by ends alike turn",
                   "way c of start by no")

    def test_numbers(self):
        desk = self.made()
        self.check(desk, "BadNumber", "go a 1001", "go a 999999", "go b 100000")
        self.assertEqual(told(desk, "go a 0", "go a 1000"), ["0 steps", "3 steps"])
        self.check(desk, "NoName", "go no 1001")

    def test_texts_of_tasks(self):
        desk = self.made()
        self.check(desk, "NoText", "task c", "task c\n  no", "task c\n  ", "task c\n   row 0: -; name 0, bound 0",
                   "task c\n  row 0: -; name 0, bound 0\n  ", "task c\n  row 1: -; name 0, bound 0")
        self.check(desk, "BadTask", "task c\n  row 0: 1 to 1; name 0, bound 0",
                   "task c\n  row 0: -; name 100, bound 0\n")
        self.check(desk, "NoName", "task a", "task fork\n  no", "task fork\n  row 0: 1 to 1; name 0, bound 0")
        self.assertEqual(desk.run("task c\n  row 0: -; name 0, bound 0"), ("done",))

    def test_a_task_that_is_broken_at_its_start(self):
        desk = self.made()
        self.check(desk, "Broken", "way c of start by deep", "way c of start by wide alike standing",
                   "carry a to start")
        self.check(desk, "NoName", "tell c")

    def test_what_goes_first(self):
        desk = self.made()
        # NoName ahead of BadWay, NoText, BadTask, BadNumber, Broken and BadSteps.
        self.check(desk, "NoName", "way a of fork by no", "way c of no by no", "task a\n  no", "go no 1001",
                   "offer no from b",
                   "offer b from no", "carry no to start")
        desk = desk_with("breaks", "fork")
        told(desk, "way x of breaks by deep", "go x 9", "way a of fork by deep")
        self.check(desk, "NoName", "offer no from x", "take no from x", "hint x from no", "offer x from no",
                   "take x from no")
        self.check(desk, "Broken", "offer a from x", "offer x from a", "take x from a", "hint x from a")
        self.check(desk, "BadNumber", "go x 1001")


class Texts(unittest.TestCase):
    def no_row(self, text, number, desk=None):
        desk = Desk() if desk is None else desk
        many = len(desk.log())
        with self.assertRaises(NoRow) as caught:
            desk.run(text)
        self.assertEqual(caught.exception.row, number, text)
        self.assertEqual(desk.log()[many:][1:], (("end", number),))
        self.assertIs(desk.is_free(), True)

    def test_of_nothing(self):
        desk = Desk()
        self.assertEqual(desk.run(""), ())
        self.assertEqual(desk.log(), (("begin", 0), ("end", 0)))

    def test_with_a_last_line_feed_or_without(self):
        for end in ("", "\n"):
            desk = desk_with("fork")
            self.assertEqual(desk.run("way a of fork by deep\ntell a" + end), ("done", "open 2"))
            self.assertEqual(desk.log()[-2:], (("begin", 2), ("end", 2)))

    def test_in_one_piece_and_in_several(self):
        pieces = [task_rows("fork", FORK), "way a of fork by deep\n", "go a 2\n", "tell a\n", "go a 1001\n",
                  "write a\n", "go a 9\n",
                  "read a\n", "tell a\n", "drop fork\n", "tell fork\n", "progress a\n"]
        whole = Desk().run("".join(pieces))
        desk = Desk()
        several = [text for piece in pieces for text in desk.run(piece)]
        self.assertEqual(list(whole), several)
        self.assertEqual(len(desk.log()), 2 * len(pieces))

    def test_the_log(self):
        desk = Desk()
        self.assertEqual(desk.log(), ())
        desk.run(task_rows("fork", FORK))
        desk.run("tell no\ntell no\n")
        self.no_row("tell no\ntell no\nno\ntell no\n", 2, desk)
        self.assertEqual(desk.log(), (("begin", 7), ("end", 7), ("begin", 2), ("end", 2), ("begin", 4), ("end", 2)))

    def test_rows_that_are_none(self):
        for one in (
            "", " ", "  ", "   ", "\t", "no", "task", "task ", "task  a", "task a ", " task a", "task A", "task a1",
            "task a b", "Task a",
            "task abcdefghi", "task a-b", "task \u00e4", "way", "way a", "way a of b", "way a of b by",
            "way a of b by deep ",
            "way a of b by deep alike", "way a of b by deep alike name x", "way a of b by Deep", "way a by deep of b",
            "way a of b with deep",
            "way a of b by abcdefghi", "way a of b by deep alike Name", "way a of b by deep like name", "go", "go a",
            "go a b", "go a 1 ", "go a 01",
            "go a 00", "go a -1", "go a +1", "go a 1.0", "go a 1000000", "go a 1 2", "go 5", "go 5 a", "go a \u0661",
            "go  a 1", "go a 1 steps",
            "tell", "tell a b", "tell 1", "Tell a", "tells a", "progress", "progress a b", "hint a", "hint a of b",
            "hint a from", "hint a from b c",
            "hint a to b", "offer a", "offer a to b", "take a", "take a of b", "write", "write a b", "read",
            "read a b", "carry a", "carry a from b",
            "carry a to", "drop", "drop a b", "carry a to b c", "tell a\r", "tell\ta", "log", "run",
            "row 0: -; name 0, bound 0", "done",
            "step a", "open a 0", "back a", "go a 5 steps", "way a of b by deep by wide", "edit a", "tell a;",
            "tell abcdefghi",
        ):
            self.no_row(one + "\n", 0)
            self.no_row("tell a\ntell b\n" + one + "\ntell c\n", 2)

    def test_an_empty_row(self):
        self.no_row("\n", 0)
        self.no_row("tell a\n\n", 1)
        self.no_row("tell a\n\ntell b", 1)

    def test_two_blanks_behind_no_task_row(self):
        self.no_row("  row 0: -; name 0, bound 0\n", 0)
        self.no_row("tell a\n  row 0: -; name 0, bound 0\n", 1)
        self.no_row(task_rows("fork", FORK) + "tell a\n  x\n", 8)
        self.no_row("task a\n tell\n", 1)

    def test_rows_of_two_blanks_count(self):
        self.no_row(task_rows("fork", FORK) + "no\n", 7)
        self.no_row("task a\n  no\n  no\n\n", 3)

    def test_names_of_one_to_eight_letters(self):
        desk = Desk()
        for name in ("a", "z", "abcdefgh", "zzzzzzzz", "way", "task", "of", "by"):
            self.assertEqual(desk.run(task_rows(name, FORK)), ("done",))
        self.assertEqual(told(desk, "way go of of by deep", "go go 1", "tell go", "way from of by by wide",
                              "hint from from go"),
                         ["done", "1 steps", "open 2", "done", "1 opened"])

    def test_numbers_of_one_to_six_figures(self):
        desk = desk_with("fork")
        self.assertEqual(told(desk, "way a of fork by deep", "go a 0", "go a 1", "go a 10", "go a 999999",
                              "go a 100000"),
                         ["done", "0 steps", "1 steps", "4 steps", "refused BadNumber", "refused BadNumber"])

    def test_what_was_done_ahead_stays_and_what_stands_behind_is_not_done(self):
        desk = desk_with("fork")
        self.no_row("way a of fork by deep\ngo a 2\nno\ngo a 9\ndrop a\n", 2, desk)
        self.assertEqual(told(desk, "progress a", "tell a"), ["3 shut 3 waiting", "open 2 best 6"])

    def test_a_refused_task_takes_its_rows_along(self):
        desk = desk_with("fork")
        self.assertEqual(desk.run(task_rows("fork", FORK) + "way a of fork by deep\n"), ("refused NoName", "done"))
        self.assertEqual(desk.run("task b\n  no\n  no\ntell a"), ("refused NoText", "open 2"))

    def test_each_row_tells_one_text(self):
        desk = Desk()
        texts = desk.run(task_rows("a", FORK) + task_rows("b", FORK) + "tell a\n")
        self.assertEqual(texts, ("done", "done", "refused NoName"))
        self.assertIs(texts.__class__, tuple)

    def test_free_but_while_a_text_is_gone_through(self):
        desk = desk_with("fork")
        self.assertIs(desk.is_free(), True)
        seen = []

        class Peeping(Told):
            """A told task that asks whether the desk is free, whenever it is asked."""

            def nexts(self, standing):
                seen.append(desk.is_free())
                return Told.nexts(self, standing)

        desk.shelf.tasks["peep"] = Peeping(FORK.table)
        self.assertEqual(told(desk, "way a of peep by deep", "go a 2"), ["done", "2 steps"])
        self.assertEqual(set(seen), {False})
        self.assertIs(desk.is_free(), True)

    def test_free_at_first(self):
        self.assertIs(Desk().is_free(), True)

    def test_two_desks(self):
        one, other = desk_with("fork"), desk_with("fork")
        told(one, "way a of fork by deep")
        self.assertEqual(told(other, "tell a"), ["refused NoName"])
        self.assertEqual((len(one.log()), len(other.log())), (4, 4))


if __name__ == "__main__":
    unittest.main()
