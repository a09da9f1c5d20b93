"""Some tasks of each kind, small enough to go through whole."""

from seekways.boards import Board
from seekways.covers import Cover
from seekways.nets import Net
from seekways.orders import Orders
from seekways.rooms import Rooms
from seekways.tasks import Task
from seekways.told import Told
from tests.helpers import row

# 1 and 2 are turned into each other; 4 leads round, 5 nowhere.
TOLD = Told(
    (
        row((2, 1), (2, 2), (1, 4), name=4, bound=3),
        row((1, 3), (5, 0), name=1, bound=1),
        row((5, 0), (1, 3), name=2, bound=1),
        row(done=True, name=7),
        row((0, 4), (1, 0), (3, 5), name=8, bound=2),
        row(cut=True, name=9),
    ),
    turns=((0, 2, 1, 3, 4, 5),),
)
ENDED = Told(
    (
        row((2, 1), (7, 3), name=0, bound=3),
        row((0, 2), (0, 1), name=1, bound=1),
        row((1, 3), (2, 0), name=2, bound=1),
        row((9, 0), done=True, name=3),
    ),
    ends=(3,),
    heads=(((2, 2),), ((2, 0), (0, 1)), ((0, 1),), ((7, 0), (1, 2))),
)
NET = Net(0, (((2, 1), (9, 3)), ((0, 0), (3, 2)), ((0, 1), (1, 3)), ((1, 0),), ((1, 3),)), (3,))
GUESSED = Net(1, (((1, 1), (4, 2)), ((2, 2), (2, 0)), ()), (2,), guesses=(1, 1, 0), turns=((0, 1, 2), (1, 0, 2)))


def kept():
    """Tasks that keep all their sayings at all standings that come from the start."""
    return [
        TOLD, ENDED, NET, Net(2, ((), ((1, 0),), ((0, 1), (3, 2))), ()), Net(0, ((),), (0,)), Task(),
        Board((0, 0, 0), 2, ((0, 1), (1, 2)), turns=((2, 1),)),
        Board((0, 1, 0), 3, ((0, 1, 2),), turns=((2, 3, 1), (2, 1, 3))),
        Board((1, 1), 2, ((0, 1),)), Board((2, 1), 2, ((0, 1),)),
        Cover(3, ((0, 1), (2,), (1, 2))), Cover(3, ((0,), (1,))), Cover(2, ((0,), (0, 1), (1,))),
        Rooms((3, 2, 4), 2, 5), Rooms((2, 2, 1), 2, 4), Rooms((1, 9), 2, 5),
        Orders(((3, 2), (2, 5), (4, 4))), Orders(((5, 1),)),
    ]


def samples():
    """Tasks of all kinds, also such as break sayings."""
    return [*kept(), GUESSED, Told((row((1, 0), bound=9, cut=True), row(done=True, bound=3)))]
