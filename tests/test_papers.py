"""Papers: when one is right for a task, row by row, and what it says."""

import unittest

from seekways.boards import Board
from seekways.book import Book
from seekways.errors import Broken
from seekways.nets import Net
from seekways.papers import claim, paper_holds
from seekways.rests import Rest
from seekways.rooms import Rooms
from seekways.tasks import Task
from seekways.told import Told
from seekways.wholes import NEVER
from tests.helpers import ODD, Watched, row
from tests.makers import broken_told, kept_told, least_cost
from tests.samples import GUESSED, NET, TOLD, samples

DONE, CUT, BOUND, FAR, NEXT = ("done",), ("cut",), ("bound",), ("far",), ("next",)
ROOMS = Rooms((2, 3), 2, 3)
BY_NAME = ("name", (
    ((0, 0, 0), 2, NEXT), ((1, 2, 0), 1, NEXT), ((1, 0, 2), 1, ("like", 1)), ((2, 2, 3), 0, DONE),
), None)
BACK = (4, (((3,), 0), ((2,), 1), ((4,), 1)))
BY_BACK = ("standing", (((0,), 6, NEXT), ((1,), 4, FAR), ((3,), 0, DONE)), BACK)


def with_row(paper, at, thing):
    word, rows, back = paper
    return (word, rows[:at] + (thing,) + rows[at + 1:], back)


def one_row(task, worth, why, word="standing", back=None):
    return paper_holds(task, (word, ((task.start(), worth, why),), back))


class ByHand(unittest.TestCase):
    def test_right_ones(self):
        self.assertIs(paper_holds(Watched(ROOMS), BY_NAME), True)
        self.assertIs(paper_holds(Watched(NET), BY_BACK), True)
        self.assertEqual(claim(BY_NAME), 2)
        self.assertEqual(claim(BY_BACK), 6)

    def test_less_worths_are_right_too(self):
        self.assertIs(paper_holds(ROOMS, with_row(BY_NAME, 0, ((0, 0, 0), 0, NEXT))), True)
        self.assertIs(paper_holds(ROOMS, with_row(BY_NAME, 2, ((1, 0, 2), 0, ("like", 1)))), False)
        low = with_row(with_row(BY_NAME, 0, ((0, 0, 0), 1, NEXT)), 2, ((1, 0, 2), 0, ("like", 1)))
        self.assertIs(paper_holds(ROOMS, low), True)
        self.assertEqual(claim(low), 1)

    def test_rows_behind_the_first_stand_in_any_order(self):
        rows = BY_NAME[1]
        other = ("name", (rows[0], rows[3], ((1, 0, 2), 1, ("like", 3)), rows[1]), None)
        self.assertIs(paper_holds(ROOMS, other), True)
        self.assertIs(paper_holds(ROOMS, ("name", rows[1:] + rows[:1], None)), False)

    def test_never(self):
        paper = ("standing", (((0,), NEVER, NEXT), ((1,), NEVER, NEXT), ((2,), NEVER, CUT)), None)
        task = Told((row((0, 1), (3, 0)), row((0, 0), (0, 2)), row(cut=True)))
        self.assertIs(paper_holds(task, paper), True)
        self.assertEqual(claim(paper), NEVER)
        self.assertEqual(claim(("name", (((0,), NEVER, CUT),), None)), NEVER)

    def test_turns(self):
        paper = ("turn", (((0,), 3, NEXT), ((1,), 1, NEXT), ((2,), 1, ("like", 1)), ((4,), 2, BOUND),
                          ((3,), 0, DONE)), None)
        self.assertIs(paper_holds(TOLD, paper), True)
        self.assertIs(paper_holds(TOLD, ("name", *paper[1:])), False)
        self.assertIs(paper_holds(TOLD, ("standing", *paper[1:])), False)

    def test_of_a_rest(self):
        self.assertIs(paper_holds(Rest(NET, (1,)), ("standing", (((1,), 4, FAR),), BACK)), True)
        self.assertIs(paper_holds(NET, ("standing", (((1,), 4, FAR),), BACK)), False)


class Rows(unittest.TestCase):
    def test_done(self):
        done = Told((row(done=True),))
        self.assertIs(one_row(done, 0, DONE), True)
        for worth in (1, NEVER):
            self.assertIs(one_row(done, worth, DONE), False)
        self.assertIs(one_row(Task(), 0, DONE), False)
        for why in (CUT, BOUND, FAR, NEXT, ("like", 0)):
            self.assertIs(one_row(done, 0, why), False, why)

    def test_done_by_a_look(self):
        self.assertIs(one_row(Told((row(done=True, bound=1),)), 0, DONE), False)
        self.assertIs(one_row(Told((row(done=True, cut=True),)), 0, DONE), False)
        self.assertIs(one_row(Told((row(done=True),), ends=(), heads=((),)), 0, DONE), False)

    def test_cut(self):
        cut = Told((row(cut=True),))
        for worth in (0, 1, 10 ** 9, NEVER):
            self.assertIs(one_row(cut, worth, CUT), True)
        self.assertIs(one_row(Task(), 0, CUT), False)
        self.assertIs(one_row(Told((row(cut=True, done=True),)), 0, CUT), False)
        self.assertIs(one_row(Told((row((1, 1), cut=True), row())), 0, CUT), False)
        self.assertIs(one_row(Told((row((1, 1), cut=True), row(cut=True))), 0, CUT), True)

    def test_bound(self):
        task = Told((row((0, 1), bound=5), row()))
        for worth, told in ((0, True), (4, True), (5, True), (6, False), (NEVER, False)):
            self.assertIs(one_row(task, worth, BOUND), told, worth)
        self.assertIs(one_row(Told((row(done=True, bound=5),)), 0, BOUND), False)

    def test_far(self):
        for worth, told in ((0, True), (1, True), (2, False), (NEVER, False)):
            self.assertIs(one_row(Rest(NET, (2,)), worth, FAR, back=BACK), told, worth)
        for worth, told in ((0, True), (4, True), (5, False), (NEVER, False)):
            self.assertIs(one_row(Rest(NET, (1,)), worth, FAR, back=BACK), told, worth)
        self.assertIs(one_row(Rest(NET, (2,)), 0, FAR), False)
        self.assertIs(one_row(Rest(NET, (3,)), 0, FAR, back=BACK), False)
        self.assertIs(one_row(Rest(NET, (2,)), 0, FAR, back=BACK, word="name"), False)

    def test_far_beyond_a_back_that_has_all(self):
        net = Net(0, (((1, 0),), ((1, 2),), ()), (2,))
        back = (NEVER, (((2,), 0), ((1,), 1)))
        for worth in (0, 10 ** 9, NEVER):
            self.assertIs(one_row(net, worth, FAR, back=back), True)

    def test_next(self):
        rows = (((1,), 3, BOUND), ((2,), NEVER, CUT))
        task = Told((row((2, 1), (0, 2), (4, 1), bound=5), row(bound=3), row(cut=True, bound=9)))
        for worth, told in ((0, True), (5, True), (6, False), (NEVER, False)):
            self.assertIs(paper_holds(task, ("name", (((0,), worth, NEXT), *rows), None)), told, worth)
        for at in (0, 1):
            self.assertIs(paper_holds(task, ("name", (((0,), 0, NEXT), rows[at]), None)), False)

    def test_next_by_a_look(self):
        for first in (row((2, 1), bound=6), row((2, 1), cut=True)):
            task = Told((first, row(bound=3)))
            self.assertIs(paper_holds(task, ("name", (((0,), 0, NEXT), ((1,), 0, BOUND)), None)), False)

    def test_next_of_nothing_is_never(self):
        for worth in (0, 7, NEVER):
            self.assertIs(one_row(Task(), worth, NEXT), True)

    def test_next_that_leads_round(self):
        for cost in (0, 1):
            for worth in (0, 7, NEVER):
                self.assertIs(one_row(Told((row((cost, 0)),)), worth, NEXT), True)

    def test_like(self):
        for number in (0, 2, 3, 4, 400, -1, True, None, "1"):
            self.assertIs(paper_holds(ROOMS, with_row(BY_NAME, 2, ((1, 0, 2), 1, ("like", number)))), False, number)
        for worth, told in ((1, True), (2, False), (NEVER, False)):
            self.assertIs(paper_holds(ROOMS, with_row(BY_NAME, 2, ((1, 0, 2), worth, ("like", 1)))), told, worth)
        self.assertIs(paper_holds(ROOMS, ("turn", *BY_NAME[1:])), True)
        self.assertIs(paper_holds(ROOMS, ("standing", *BY_NAME[1:])), False)

    def test_like_one_that_is_like(self):
        rooms = Rooms((1,), 3, 1)
        rows = (((0, 0, 0, 0), 1, NEXT), ((1, 1, 0, 0), 0, DONE), ((1, 0, 1, 0), 0, ("like", 1)))
        self.assertIs(paper_holds(rooms, ("name", (*rows, ((1, 0, 0, 1), 0, ("like", 1))), None)), True)
        self.assertIs(paper_holds(rooms, ("name", (*rows, ((1, 0, 0, 1), 0, ("like", 2))), None)), False)

    def test_like_by_a_look(self):
        task = Told((row((1, 1), (1, 2)), row(name=5, bound=1), row(name=5)))
        rows = (((0,), 1, NEXT), ((1,), 1, BOUND), ((2,), 0, ("like", 1)))
        self.assertIs(paper_holds(task, ("name", rows, None)), False)
        same = Told((row((1, 1), (1, 2)), row(name=5, bound=1), row(name=5, bound=1)))
        self.assertIs(paper_holds(same, ("name", rows, None)), True)
        other = Told((row((1, 1), (1, 2)), row(name=5, bound=1), row(name=6, bound=1)))
        self.assertIs(paper_holds(other, ("name", rows, None)), False)

    def test_like_of_any_state(self):
        task = Told((row((1, 1), (2, 2)), row(name=5, cut=True), row(name=5, cut=True)))
        rows = (((0,), NEVER, NEXT), ((1,), NEVER, CUT), ((2,), NEVER, ("like", 1)))
        self.assertIs(paper_holds(task, ("name", rows, None)), True)


class Wrong(unittest.TestCase):
    def wrong(self, thing, task=ROOMS):
        self.assertIs(paper_holds(task, thing), False, thing)

    def test_the_word(self):
        for word in ("standing", "", "names", None, True, 0, ("name",), ["name"], {}):
            self.wrong((word, *BY_NAME[1:]))

    def test_rows_left_out_or_twice(self):
        rows = BY_NAME[1]
        for at in range(4):
            self.wrong(("name", rows[:at] + rows[at + 1:], None))
            self.wrong(("name", rows + rows[at:at + 1], None))
            self.wrong(("name", rows + ((rows[at][0], 0, BOUND),), None))
        self.wrong(("name", (), None))

    def test_the_first_row_is_the_start(self):
        self.wrong(("name", (((1, 2, 0), 1, BOUND),), None))
        self.wrong(("name", (((1, 2, 0), 1, BOUND), ((0, 0, 0), 2, BOUND)), None))

    def test_each_row_otherwise(self):
        for at, (standing, worth, why) in enumerate(BY_NAME[1]):
            things = [
                None, (), (standing, worth), (standing, worth, why, 0), [standing, worth, why], standing,
                (list(standing), worth, why), (None, worth, why), (0, worth, why), ((9, 9, 9), worth, why),
                ((0, 0), worth, why), ((True,) + standing[1:], worth, why), ((), worth, why),
                (standing, worth + 1, why), (standing, True, why), (standing, None, why), (standing, -2, why),
                (standing, str(worth), why), (standing, (worth,), why), (standing, worth, None), (standing, worth, ()),
                (standing, worth, why[0]), (standing, worth, list(why)), (standing, worth, why + (0,)),
                (standing, worth, ("like",)), (standing, worth, ("other",)), (standing, worth, ("like", 1, 1)),
            ]
            for thing in things:
                if thing != (standing, worth, why):
                    self.wrong(with_row(BY_NAME, at, thing))

    def test_a_standing_that_is_none(self):
        self.wrong(("name", BY_NAME[1] + (((1, 9, 0), 0, BOUND),), None))
        self.assertIs(paper_holds(ROOMS, ("name", BY_NAME[1] + (((1, 1, 0), 0, BOUND),), None)), True)

    def test_backs(self):
        self.wrong((*BY_NAME[:2], (0, ())))
        for back in ((5, BACK[1]), (4, BACK[1][:2]), (3, BACK[1]), (NEVER, BACK[1]), (4, list(BACK[1])), (), 0, False,
                     (True, BACK[1]), [4, BACK[1]], None):
            self.wrong((*BY_BACK[:2], back), NET)
        plain = ("standing", (((0,), 0, BOUND),), None)
        self.assertIs(paper_holds(NET, plain), True)
        self.assertIs(paper_holds(NET, (*plain[:2], BACK)), True)
        self.assertIs(paper_holds(NET, ("name", *plain[1:])), True)
        self.wrong(("name", plain[1], BACK), NET)
        self.wrong((*plain[:2], (5, BACK[1])), NET)
        self.wrong(("standing", (((0,), 0, BOUND),), (0, ())), TOLD)

    def test_anything(self):
        for task in (ROOMS, NET, TOLD, Task()):
            for thing in (*ODD, 0, 5, list(BY_NAME), BY_NAME[:2], BY_NAME + (None,), ("name", list(BY_NAME[1]), None),
                          ("name", None, None), ("name", (None,), None), ("name", "rows", None)):
                self.wrong(thing, task)

    def test_400_rows_and_401(self):
        task = Board((0,) * 9, 4, ())
        rows = [((0,) * 9, 9, BOUND)]
        for colours in range(1, 500):
            cells = tuple((colours // 5 ** at) % 5 for at in range(9))
            rows.append((cells, 0, BOUND if 0 in cells else DONE))
        self.assertIs(paper_holds(task, ("name", tuple(rows[:400]), None)), True)
        self.assertIs(paper_holds(task, ("name", tuple(rows[:401]), None)), False)


class OfBooks(unittest.TestCase):
    def papers(self, task):
        """Papers of books as they are opened."""
        for word in ("standing", "name", "turn"):
            back = word == "standing" and task.ends() is not None
            try:
                book = Book(task, alike=word, back=back)
                for again in range(5):
                    yield book.paper()
                    if again % 2 and back:
                        book.open_back()
                    elif book.waiting():
                        book.open_row(book.waiting()[0])
            except Broken:
                pass

    def tasks(self):
        return [*samples(), *[kept_told(seed) for seed in range(40)], *[broken_told(seed) for seed in range(40)]]

    def test_right(self):
        for task in self.tasks():
            for paper in self.papers(task):
                self.assertIs(paper_holds(Watched(task), paper), True)

    def test_a_greater_claim_is_wrong(self):
        for task in self.tasks():
            for word, rows, back in self.papers(task):
                standing, worth, why = rows[0]
                if why not in (CUT, ("next",)) and worth != NEVER:
                    for more in (worth + 1, NEVER):
                        self.assertIs(paper_holds(task, (word, ((standing, more, why), *rows[1:]), back)), False)

    def test_what_is_said_holds_where_sayings_are_kept(self):
        for seed in range(60):
            task = kept_told(seed)
            least = least_cost(task)
            for paper in self.papers(task):
                if claim(paper) == NEVER:
                    self.assertIsNone(least)
                elif least is not None:
                    self.assertLessEqual(claim(paper), least)

    def test_guesses_that_break_make_no_paper_right(self):
        net = Net(0, (((1, 1),), ()), (1,), guesses=(5, 0))
        self.assertIs(paper_holds(net, ("name", (((0,), 1, NEXT), ((1,), 0, DONE)), None)), False)
        self.assertIs(paper_holds(GUESSED, ("name", (((1,), 1, BOUND),), None)), True)


if __name__ == "__main__":
    unittest.main()
