"""What tests of all that goes on step by step need."""

from seekways.errors import BadNumber
from tests.reckoned import face

# Nothing here is a number of steps.
NO_STEPS = (
    None, True, False, -1, -1000, 1001, 10 ** 6, "", "1", "5 steps", (), (1,), [], [3], {}, {1: 1},
    ((1,), [2], {"a": None}),
)


def look_of(way):
    """All that a way tells of itself and its book."""
    book = way.book()
    return (way.kind(), way.limit(), way.is_over(), book.told(), face(book))


def joined_look(joined):
    """All that a row of ways tells of itself and its book."""
    book = joined.book()
    return (joined.turn(), joined.limits(), joined.is_over(), book.told(), face(book))


def refuses_numbers(test, mover, look):
    """Going on by anything that is no number of steps is refused, twice, and all is as it was."""
    before = look(mover)
    for thing in NO_STEPS:
        for again in range(2):
            with test.assertRaises(BadNumber) as caught:
                mover.go(thing)
            test.assertIs(caught.exception.number, thing)
    test.assertEqual(look(mover), before)


def refused_step(test, kind, deed, *parts):
    """The refusal of a step, or of going on."""
    with test.assertRaises(kind) as caught:
        deed(*parts)
    test.assertIs(caught.exception.__class__, kind)
    return caught.exception


def steps_till_over(test, mover, most):
    """All that a mover's steps tell till it is over, at most so many."""
    told = []
    while not mover.is_over():
        told.append(mover.step())
        test.assertLessEqual(len(told), most)
    return told
