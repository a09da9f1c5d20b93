"""Nets: their doors, and what is refused."""

import unittest

from seekways.nets import Net
from seekways.tasks import Task
from tests.helpers import ODD, place_of

WAYS = (
    ((2, 1), (5, 3), (0, 0)),
    ((1, 3), (1, 3), (4, 0), (2, 3)),
    ((7, 1), (1000, 3)),
    ((3, 2), (3, 3)),
)
PLAIN = Net(0, WAYS, (3,))
GUESSED = Net(2, WAYS, (1, 3), guesses=(0, 100000, 7, 1), turns=((1, 0, 2, 3), (3, 3, 3, 3)))


class Doors(unittest.TestCase):
    def test_is_a_task(self):
        self.assertIsInstance(PLAIN, Task)

    def test_start(self):
        self.assertEqual(PLAIN.start(), (0,))
        self.assertEqual(GUESSED.start(), (2,))
        self.assertEqual(Net(11, ((),) * 12, ()).start(), (11,))

    def test_has(self):
        for place in range(8):
            self.assertIs(PLAIN.has((place,)), place < 4, place)
        for thing in (*ODD, 0, (0, 0), [0], (4,), (999,)):
            self.assertIs(PLAIN.has(thing), False, thing)
        self.assertIs(Net(0, ((),) * 12, ()).has((11,)), True)
        self.assertIs(Net(0, ((),) * 12, ()).has((12,)), False)

    def test_nexts(self):
        self.assertEqual(PLAIN.nexts((0,)), ((2, (1,)), (5, (3,)), (0, (0,))))
        self.assertEqual(PLAIN.nexts((1,)), ((1, (3,)), (1, (3,)), (4, (0,)), (2, (3,))))
        self.assertEqual(Net(0, ((),), ()).nexts((0,)), ())

    def test_done(self):
        self.assertEqual([PLAIN.is_done((place,)) for place in range(4)], [False, False, False, True])
        self.assertEqual([GUESSED.is_done((place,)) for place in range(4)], [False, True, False, True])
        self.assertIs(Net(0, WAYS, ()).is_done((0,)), False)

    def test_name_bound_cut(self):
        for place in range(4):
            self.assertEqual(PLAIN.named((place,)), (place,))
            self.assertEqual(PLAIN.bound((place,)), 0)
            self.assertIs(PLAIN.cut((place,)), False)
        self.assertEqual([GUESSED.bound((place,)) for place in range(4)], [0, 100000, 7, 1])

    def test_turnings(self):
        self.assertEqual(PLAIN.turnings(), 0)
        self.assertEqual(GUESSED.turnings(), 2)
        self.assertEqual([GUESSED.turned(0, (place,)) for place in range(4)], [(1,), (0,), (2,), (3,)])
        self.assertEqual([GUESSED.turned(1, (place,)) for place in range(4)], [(3,)] * 4)

    def test_ends(self):
        self.assertEqual(PLAIN.ends(), ((3,),))
        self.assertEqual(GUESSED.ends(), ((1,), (3,)))
        self.assertEqual(Net(0, WAYS, ()).ends(), ())

    def test_ahead(self):
        self.assertEqual(PLAIN.ahead((0,)), ((0, (0,)), (4, (1,))))
        self.assertEqual(PLAIN.ahead((1,)), ((2, (0,)), (7, (2,))))
        self.assertEqual(PLAIN.ahead((2,)), ())
        self.assertEqual(PLAIN.ahead((3,)), ((5, (0,)), (1, (1,)), (1, (1,)), (2, (1,)), (1000, (2,))))

    def test_ahead_leaves_out_goals(self):
        self.assertEqual(GUESSED.ahead((0,)), ((0, (0,)),))
        self.assertEqual(GUESSED.ahead((3,)), ((5, (0,)), (1000, (2,))))
        self.assertEqual(Net(0, WAYS, ()).ahead((2,)), ((3, (3,)),))

    def test_what_stands_behind_the_star_is_handed_in_by_name_alone(self):
        with self.assertRaises(TypeError):
            Net(0, WAYS, (), None)


class Refused(unittest.TestCase):
    def place(self, first=0, ways=(((1, 1),), ()), goals=(1,), guesses=None, turns=()):
        return place_of(self, Net, first, ways, goals, guesses=guesses, turns=turns)

    def test_first(self):
        for first in (*ODD, -1, 2, 12, 1000, (0,)):
            self.assertEqual(self.place(first=first), ("first",), first)
        self.assertEqual(Net(1, ((), ()), ()).start(), (1,))

    def test_ways(self):
        wrongs = [None, True, 0, "", [], {}, (), [()], ((),) * 13, ([], ()), ((), None), ((), 0), (((1, 1),) * 9, ()),
                  ((), ((1,),)), ((), ((1, 1, 1),)), ((), ([1, 1],)), ((), (1, 1)), (((-1, 0),), ()), (((1001, 0),), ()),
                  (((True, 0),), ()), (((1, False),), ()), (((1, -1),), ()), (((1, 2),), ()), (((1, 12),), ()),
                  (((1, (0,)),), ()), (((None, 0),), ()), (((1, "0"),), ()), ((None,), ())]
        for ways in wrongs:
            self.assertEqual(self.place(ways=ways), ("ways",), ways)
        for ways in (((),), ((),) * 12, (((0, 0), (1000, 0)) * 4,), (((1, 11),) * 8,) * 12):
            self.assertEqual(len(Net(0, ways, ()).nexts((0,))), len(ways[0]))

    def test_goals(self):
        wrongs = [None, True, 0, "", [], {}, [1], (1, 0), (1, 1), (0, 0), (-1,), (2,), (0, 2), (True,), (0, True),
                  (False,), ("1",), ((1,),), (None,), tuple(range(13))]
        for goals in wrongs:
            self.assertEqual(self.place(goals=goals), ("goals",), goals)
        for goals in ((), (0,), (1,), (0, 1)):
            self.assertEqual(len(Net(0, ((), ()), goals).ends()), len(goals))

    def test_guesses(self):
        wrongs = [True, False, 0, "", [], {}, [0, 0], (), (0,), (0, 0, 0), (-1, 0), (0, 100001), (True, 0), (0, False),
                  (0, None), ("0", 0), ((0,), 0)]
        for guesses in wrongs:
            self.assertEqual(self.place(guesses=guesses), ("guesses",), guesses)
        self.assertEqual(Net(0, ((), ()), (), guesses=(0, 100000)).bound((1,)), 100000)

    def test_turns(self):
        wrongs = [None, True, 0, "", [], {}, [(0, 1)], (0, 1), ((0, 1),) * 4, ([0, 1],), ((0, 1), None), ((),), ((0,),),
                  ((0, 1, 1),), ((0, 2),), ((-1, 0),), ((True, 0),), ((0, False),), (("0", 1),), (((0,), 1),)]
        for turns in wrongs:
            self.assertEqual(self.place(turns=turns), ("turns",), turns)
        for turns in ((), ((0, 0),), ((1, 0),) * 3):
            self.assertEqual(Net(0, ((), ()), (), turns=turns).turnings(), len(turns))

    def test_each_by_itself_in_order(self):
        self.assertEqual(self.place(first=(), ways=5, goals=5, guesses=5, turns=5), ("first",))
        self.assertEqual(self.place(ways=5, goals=5, guesses=5, turns=5), ("ways",))
        self.assertEqual(self.place(goals=5, guesses=5, turns=5), ("goals",))
        self.assertEqual(self.place(guesses=5, turns=5), ("guesses",))
        self.assertEqual(self.place(turns=5), ("turns",))

    def test_by_itself_goes_ahead_of_against_the_others(self):
        self.assertEqual(self.place(first=7, ways=(((1, 1, 1),),)), ("ways",))
        self.assertEqual(self.place(first=7, goals=(1, 0)), ("goals",))
        self.assertEqual(self.place(first=7, guesses=(0, -1)), ("guesses",))
        self.assertEqual(self.place(ways=(((1, 7),), ()), guesses=(0, 100001)), ("guesses",))
        self.assertEqual(self.place(goals=(7,), turns=((0, True),)), ("turns",))
        self.assertEqual(self.place(guesses=(0,), turns=((0, -1),)), ("turns",))

    def test_against_the_others_in_order(self):
        beyond = {"ways": (((1, 7),), ()), "goals": (7,), "guesses": (0,), "turns": ((0,),)}
        self.assertEqual(self.place(first=7, **beyond), ("first",))
        self.assertEqual(self.place(**beyond), ("ways",))
        self.assertEqual(self.place(goals=(7,), guesses=(0,), turns=((0,),)), ("goals",))
        self.assertEqual(self.place(guesses=(0,), turns=((0,),)), ("guesses",))
        self.assertEqual(self.place(turns=((0,),)), ("turns",))


if __name__ == "__main__":
    unittest.main()
