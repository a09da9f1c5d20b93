"""Texts of told tasks: written, read, and what isn't written so."""

import unittest

from seekways.errors import BadTask, NoText
from seekways.rests import told_of
from seekways.texts import read_task, task_text
from seekways.told import Told
from tests.givens import given_task
from tests.helpers import row
from tests.makers import broken_told, kept_told
from tests.samples import ENDED, TOLD

TASK = Told(
    (
        row((2, 1), (5, 3), name=4, bound=3), row((1, 3), name=1, bound=1),
        row((0, 0), name=99, cut=True, bound=100000),
        row(name=3, done=True), row(name=0, done=True, cut=True),
    ),
    turns=((0, 2, 1, 3, 4), (4, 3, 2, 1, 0)), ends=(3, 4), heads=((), ((2, 0),), (), ((5, 0), (1, 1)), ()),
)
TEXT = """row 0: 2 to 1, 5 to 3; name 4, bound 3
row 1: 1 to 3; name 1, bound 1
row 2: 0 to 0; name 99, bound 100000 cut
row 3: -; name 3, bound 0 done
row 4: -; name 0, bound 0 done cut
turn 0 2 1 3 4
turn 4 3 2 1 0
ends 3 4
heads 0: -
heads 1: 2 of 0
heads 2: -
heads 3: 5 of 0, 1 of 1
heads 4: -
"""
PLAIN = "row 0: -; name 0, bound 0"


def lines(text):
    return text.split("\n")[:-1]


def joined(rows):
    return "".join(one + "\n" for one in rows)


def long_told(pairs):
    """A told task whose heads have so many pairs in all."""
    heads = []
    for at in range(24):
        many = min(200, pairs)
        pairs -= many
        heads.append(((1000, 23),) * many)
    return Told(tuple(row(name=at) for at in range(24)), ends=(), heads=tuple(heads))


class WrittenAndRead(unittest.TestCase):
    def both(self, task, text):
        self.assertEqual(task_text(task), text)
        made = read_task(text)
        self.assertIs(made.__class__, Told)
        self.assertEqual(made, task)

    def test_the_whole_of_it(self):
        self.both(TASK, TEXT)

    def test_rows_of_the_document(self):
        task = Told((row((2, 1), (5, 3), name=4, bound=3), row(name=1), row(name=2), row(name=3, done=True)))
        self.assertEqual(lines(task_text(task))[0], "row 0: 2 to 1, 5 to 3; name 4, bound 3")
        self.assertEqual(lines(task_text(task))[3], "row 3: -; name 3, bound 0 done")
        self.assertEqual(read_task(task_text(task)), task)

    def test_the_least(self):
        self.both(Told((row(),)), PLAIN + "\n")
        self.both(Told((row(),), turns=((0,),)), PLAIN + "\nturn 0\n")
        self.both(Told((row(),), turns=((0,), (0,), (0,))), PLAIN + "\nturn 0\nturn 0\nturn 0\n")

    def test_ends_that_are_none(self):
        self.both(Told((row(),), ends=(), heads=((),)), PLAIN + "\nends\nheads 0: -\n")
        self.both(Told((row(),), ends=(0,), heads=(((3, 0), (0, 0)),)), PLAIN + "\nends 0\nheads 0: 3 of 0, 0 of 0\n")

    def test_done_and_cut(self):
        for done in (False, True):
            for cut in (False, True):
                marks = (" done" if done else "") + (" cut" if cut else "")
                self.both(Told((row(done=done, cut=cut),)), PLAIN + marks + "\n")

    def test_24_rows_of_eight_nexts(self):
        task = Told(tuple(row(*[(1000, 23 - to) for to in range(8)], name=99, bound=100000) for at in range(24)))
        self.assertEqual(read_task(task_text(task)), task)

    def test_many_tasks_each_way_round(self):
        tasks = [TOLD, ENDED, *[kept_told(seed) for seed in range(80)], *[broken_told(seed) for seed in range(80)]]
        tasks += [told_of(given_task(seed)) for seed in range(0, 60, 5) if len(given_task(seed).start()) < 3]
        for task in tasks:
            text = task_text(task)
            self.assertEqual(read_task(text), task)
            self.assertEqual(task_text(read_task(text)), text)

    def test_20000_signs_and_one_more(self):
        pairs = 0
        while len(task_text(long_told(pairs + 1))) <= 20000:
            pairs += 1
        text = task_text(long_told(pairs))
        self.assertEqual(read_task(text), long_told(pairs))
        # One sign more each time: bounds of one to five figures.
        most = text
        while len(most) < 20000:
            most = most.replace("bound 0\n", "bound 10\n", 1)
        self.assertEqual(len(most), 20000)
        self.assertEqual(len(read_task(most)), 24)
        for longer in (most.replace("bound 0\n", "bound 10\n", 1), most + "x", most + "\n", "x" * 20001):
            self.assertEqual(len(longer), 20001)
            with self.assertRaises(NoText) as caught:
                read_task(longer)
            self.assertEqual(caught.exception.row, 0)
        with self.assertRaises(NoText) as caught:
            read_task(most[:-2] + "x\n")
        self.assertEqual(caught.exception.row, 48)


class NotWrittenSo(unittest.TestCase):
    def wrong(self, text, number):
        for again in range(2):
            with self.assertRaises(NoText) as caught:
                read_task(text)
            self.assertEqual(caught.exception.row, number, text)

    def bend(self, number, *rows):
        """The row of that number, put otherwise, isn't written so."""
        for one in rows:
            whole = lines(TEXT)
            whole[number] = one
            self.wrong(joined(whole), number)

    def test_no_text(self):
        for thing in (None, True, 0, b"row", (), [PLAIN], {}, ("row 0",)):
            self.wrong(thing, 0)
        for text in ("", "\n", " ", "\n" + PLAIN + "\n", "row", "row 0", "ends\n", "turn 0\n", "heads 0: -\n",
                     "task a\n"):
            self.wrong(text, 0)

    def test_rows(self):
        self.bend(
            0, "", " ", "row", "row 0", "row 0:", "row 0: ", "row 1: -; name 4, bound 3", "row 00: -; name 4, bound 3",
            "row -0: -; name 4, bound 3", "Row 0: -; name 4, bound 3", " row 0: -; name 4, bound 3",
            "row  0: -; name 4, bound 3",
            "row 0 : -; name 4, bound 3", "row 0:-; name 4, bound 3", "row 0:  -; name 4, bound 3",
            "row 0: - ; name 4, bound 3",
            "row 0: -;name 4, bound 3", "row 0: -, name 4, bound 3", "row 0: -; name 4; bound 3",
            "row 0: -; name 4 bound 3",
            "row 0: -; name 4,bound 3", "row 0: -; bound 3, name 4", "row 0: -; name 4, bound 3,",
            "row 0: -; name 4, bound 3.",
            "row 0: -; name 4, bound 3 ", "row 0: -; name 4, bound 3\r", "row 0: -; name 4, bound",
            "row 0: -; name, bound 3",
            "row 0: -; name 4", "row 0: -", "row 0: ; name 4, bound 3", "row 0: --; name 4, bound 3",
            "row 0; -; name 4, bound 3",
            "row 0: -; name  4, bound 3", "row 0: -; name 4, bound  3", "row 0: -; name 4,  bound 3",
            "row 0: -;  name 4, bound 3",
            "row 0: -; Name 4, bound 3", "row 0: -; name four, bound 3", "row 0: -; name 4, bound 3 4",
            "row 0: -; name, 4, bound 3",
            "row 0: -; name 4, bound 3; name 4, bound 3", "row 0: -; name 4, bound 3, bound 3",
            "row zero: -; name 4, bound 3",
        )

    def test_marks(self):
        for marks in ("cut done", "done done", "cut cut", "done cut done", "Done", "done,", "done, cut", " done",
                      "done ", "open", "c",
                      "done  cut", "donecut", "done,cut"):
            self.bend(3, "row 3: -; name 3, bound 0 " + marks)
        self.bend(3, "row 3: -; name 3, bound 0done", "row 3: - done; name 3, bound 0",
                  "done row 3: -; name 3, bound 0")

    def test_pairs(self):
        for pairs in ("2", "2 to", "to 1", "2 to 1,", "2 to 1, ", ", 2 to 1", "2 to 1,5 to 3", "2 to 1 , 5 to 3",
                      "2 to 1,  5 to 3",
                      "2 to 1 5 to 3", "2 to 1; 5 to 3", "2 of 1", "2 To 1", "2  to 1", "2 to  1", " 2 to 1",
                      "2 to 1 ", "2 to 1, -",
                      "-, 2 to 1", "2 to 1 to 3", "2, to 1", "2 to one", "2 1", "2 to 1,\t5 to 3", "(2, 1)",
                      "2 to 1, 5 of 3",
                      "2 to 1,, 5 to 3", "", "2-1"):
            self.bend(0, f"row 0: {pairs}; name 4, bound 3")
        for pairs in ("2", "2 of", "of 0", "2 of 0,", "2 to 0", "2 of 0,1 of 1", "2 of 0, 1 to 1", "", " -", "- ",
                      "2 of 0; ", "2 Of 0"):
            self.bend(9, f"heads 1: {pairs}")

    def test_numbers(self):
        for number in ("", "00", "01", "007", "+1", "-1", "1.0", "1_0", "0x1", "a", "1a", "1000000", "0000001", "1e1",
                       " 1", "1 ",
                       "\u0661", "\u00b2", "\u2460", "\uff11", "True", "-"):
            self.bend(0, f"row 0: {number} to 1; name 4, bound 3", f"row 0: 2 to {number}; name 4, bound 3",
                      f"row 0: -; name {number}, bound 3", f"row 0: -; name 4, bound {number}")
            self.bend(5, f"turn 0 {number} 1 3 4")
            self.bend(7, f"ends {number}", f"ends 3 {number}")
            self.bend(9, f"heads 1: {number} of 0", f"heads 1: 2 of {number}")

    def test_turns_ends_and_heads(self):
        self.bend(5, "turn", "turn ", "turn 0,2,1,3,4", "turn 0 2 1 3 4 ", "turn  0 2 1 3 4", " turn 0 2 1 3 4",
                  "Turn 0 2 1 3 4",
                  "turns 0 2 1 3 4", "turn 0  2 1 3 4", "turn: 0 2 1 3 4", "turn -", "turn 0 2 1 3 4;")
        self.bend(7, "ends ", "ends  3 4", "ends 3  4", "ends 3, 4", "Ends 3 4", "end 3 4", "ends: 3 4", " ends 3 4",
                  "ends 3 4 ",
                  "ends -", "ends none")
        self.bend(9, "heads", "heads 1", "heads 1:", "heads 1: ", "heads 0: -", "heads 2: -", "heads 01: -",
                  "head 1: -",
                  "Heads 1: -", "heads  1: -", "heads 1:  -", "heads 1 : -", "heads 1; -", " heads 1: -", "heads 5: -")

    def test_rows_out_of_their_places(self):
        whole = lines(TEXT)
        # A row of the table twice, then left out.
        self.wrong(joined(whole[:1] + whole), 1)
        self.wrong(joined(whole[:1] + whole[2:]), 1)
        # A row of the table behind the turnings, behind the ends, behind the heads.
        self.wrong(joined(whole[:5] + whole[5:6] + ["row 5: -; name 0, bound 0"] + whole[6:]), 6)
        self.wrong(joined(whole[:8] + ["row 5: -; name 0, bound 0"] + whole[8:]), 8)
        self.wrong(joined(whole + ["row 5: -; name 0, bound 0"]), 13)
        # A turning behind the ends; the ends twice; heads without ends.
        self.wrong(joined(whole[:5] + ["ends 3 4"] + whole[5:]), 6)
        self.wrong(joined(whole[:8] + ["ends 3 4"] + whole[8:]), 8)
        self.wrong(joined(whole[:7] + whole[8:]), 7)
        self.wrong(joined(whole[:5] + ["heads 0: -"] + whole[5:]), 5)
        self.wrong(joined(whole + ["ends"]), 13)
        self.wrong(joined(whole + ["turn 0 1 2 3 4"]), 13)
        self.wrong(joined(whole[:7] + ["turn 0 1 2 3 4"] * 2 + whole[7:]), 8)

    def test_more_than_may_be(self):
        rows = [f"row {at}: -; name 0, bound 0" for at in range(30)]
        self.assertEqual(len(read_task(joined(rows[:24]))), 24)
        self.wrong(joined(rows[:25]), 24)
        self.wrong(joined(rows), 24)
        self.wrong(joined([PLAIN] + ["turn 0"] * 4), 4)
        self.wrong(joined([PLAIN] + ["turn 0"] * 7), 4)
        self.wrong(joined([PLAIN, "ends", "heads 0: -", "heads 1: -"]), 3)
        self.wrong(TEXT + "heads 5: -\n", 13)
        self.wrong(TEXT + "\n", 13)
        self.wrong(PLAIN + "\n\n", 1)
        self.wrong(PLAIN + "\n ", 1)

    def test_rows_that_lack(self):
        whole = lines(TEXT)
        for many in range(8, 13):
            self.wrong(joined(whole[:many]), many)
        self.wrong(joined([PLAIN, "ends"]), 2)
        self.assertEqual(len(read_task(joined([one for one in whole[:5]]))), 5)

    def test_a_line_feed_that_lacks(self):
        whole = lines(TEXT)
        for many in range(1, 14):
            self.wrong(joined(whole[:many])[:-1], many - 1)
        self.wrong(PLAIN, 0)
        self.wrong(PLAIN + "\nturn 0", 1)

    def test_the_first_wrong_row(self):
        whole = lines(TEXT)
        whole[3], whole[1], whole[9] = "no", "no", "no"
        self.wrong(joined(whole), 1)
        # As if all ahead were right: row 2 isn't there, but that is told of no row's writing.
        self.wrong(joined(["row 0: 1 to 9; name 0, bound 0", "no"]), 1)


class NoToldTask(unittest.TestCase):
    def wrong(self, number, one, place):
        whole = lines(TEXT)
        whole[number] = one
        with self.assertRaises(BadTask) as caught:
            read_task(joined(whole))
        self.assertEqual(caught.exception.place, place)

    def test_rows(self):
        for one in ("row 1: 1 to 5; name 1, bound 1", "row 1: 1 to 999999; name 1, bound 1",
                    "row 1: 1001 to 3; name 1, bound 1",
                    "row 1: 1 to 3; name 100, bound 1", "row 1: 1 to 3; name 1, bound 100001",
                    "row 1: 999999 to 0; name 1, bound 1",
                    "row 1: " + ", ".join(["1 to 1"] * 9) + "; name 1, bound 1"):
            self.wrong(1, one, ("row", 1))

    def test_turnings(self):
        for one in ("turn 0", "turn 0 1 2 3", "turn 0 1 2 3 4 0", "turn 0 1 2 3 5"):
            self.wrong(5, one, ("turn", 0))
            self.wrong(6, one, ("turn", 1))

    def test_ends(self):
        for one in ("ends 5", "ends 4 3", "ends 3 3", "ends 999999"):
            self.wrong(7, one, ("ends",))

    def test_heads(self):
        for one in ("heads 1: 1 of 5", "heads 1: 1001 of 0", "heads 1: " + ", ".join(["1 of 1"] * 201)):
            self.wrong(9, one, ("heads",))
        whole = lines(TEXT)
        whole[9] = "heads 1: " + ", ".join(["1 of 1"] * 200)
        self.assertEqual(len(read_task(joined(whole)).heads[1]), 200)

    def test_what_is_not_written_so_goes_first(self):
        whole = lines(TEXT)
        whole[0] = "row 0: 1 to 9; name 4, bound 3"
        with self.assertRaises(NoText) as caught:
            read_task(joined(whole[:-1]))
        self.assertEqual(caught.exception.row, 12)

    def test_the_first_wrong_place(self):
        whole = lines(TEXT)
        whole[1], whole[5], whole[7] = "row 1: 1 to 7; name 1, bound 1", "turn 0", "ends 9"
        with self.assertRaises(BadTask) as caught:
            read_task(joined(whole))
        self.assertEqual(caught.exception.place, ("row", 1))


if __name__ == "__main__":
    unittest.main()
