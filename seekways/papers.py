"""Papers: rows that say what answers cost at least, and when a paper is right for a task."""

from seekways.answers import at_most, plus
from seekways.backs import back_holds, distances_of
from seekways.forms import is_from, is_tuple_of, is_worth
from seekways.looks import label, look, look_alike
from seekways.rests import Rest
from seekways.wholes import MOST_ROWS, WORDS, is_standing

PLAIN_WHYS = (("done",), ("cut",), ("bound",), ("far",), ("next",))
NEXT = ("next",)


class Sheet:
    """A paper of right form laid out beside its task, so that each row can be judged by the others."""

    def __init__(self, task, paper):
        word, rows, back = paper
        self.task = task
        self.word = word
        self.rows = rows
        self.back = back
        self.worths = {standing: worth for standing, worth, why in rows}
        self.distances = {} if back is None else distances_of(back)


def is_why(thing):
    """Whether a thing has the form of a row's why."""
    if thing in PLAIN_WHYS:
        return True
    return is_tuple_of(thing, 2, 2) and thing[0] == "like" and is_from(thing[1], 0)


def is_paper_row(thing):
    """Whether a thing has the form (standing, worth, why)."""
    return is_tuple_of(thing, 3, 3) and is_standing(thing[0]) and is_worth(thing[1]) and is_why(thing[2])


def is_paper(thing):
    """Whether a thing has the form of a paper, its back aside, with no standing twice."""
    if not is_tuple_of(thing, 3, 3) or thing[0] not in WORDS:
        return False
    rows = thing[1]
    if not is_tuple_of(rows, 1, MOST_ROWS) or not all([is_paper_row(row) for row in rows]):
        return False
    return len({standing: worth for standing, worth, why in rows}) == len(rows)


def done_holds(sheet, row):
    """A done row is right: done, worth 0."""
    standing, worth, why = row
    return sheet.task.is_done(standing) and worth == 0 and look(sheet.task, standing) is None


def cut_holds(sheet, row):
    """A cut row is right, whatever its worth."""
    standing, worth, why = row
    if sheet.task.is_done(standing) or not sheet.task.cut(standing):
        return False
    return look(sheet.task, standing) is None


def bound_holds(sheet, row):
    """A row that stands by its bound is right."""
    standing, worth, why = row
    return not sheet.task.is_done(standing) and at_most(worth, sheet.task.bound(standing))


def far_holds(sheet, row):
    """A row that stands by the back is right."""
    standing, worth, why = row
    if sheet.back is None or sheet.task.is_done(standing):
        return False
    return at_most(worth, sheet.distances.get(standing, sheet.back[0]))


def next_holds(sheet, row):
    """A row that stands by all its nexts is right."""
    standing, worth, why = row
    if sheet.task.is_done(standing) or look(sheet.task, standing) is not None:
        return False
    for cost, to in sheet.task.nexts(standing):
        if to not in sheet.worths or not at_most(worth, plus(cost, sheet.worths[to])):
            return False
    return True


def like_holds(sheet, row):
    """A row that stands by another one of its label is right."""
    standing, worth, why = row
    number = why[1]
    if sheet.word == "standing" or number >= len(sheet.rows):
        return False
    # A row that says like is none to stand by; so neither is the row itself.
    other, other_worth, other_why = sheet.rows[number]
    if other_why[0] == "like":
        return False
    if label(sheet.task, sheet.word, other) != label(sheet.task, sheet.word, standing):
        return False
    return look_alike(sheet.task, sheet.word, other, standing) is None and at_most(worth, other_worth)


HOLDS = {
    "done": done_holds,
    "cut": cut_holds,
    "bound": bound_holds,
    "far": far_holds,
    "next": next_holds,
    "like": like_holds,
}


def row_holds(sheet, row):
    """Whether a row is right by its why."""
    holds = HOLDS[row[2][0]]
    return holds(sheet, row)


def paper_holds(task, thing):
    """Whether a thing, whatever it is, is a right paper of a task."""
    if not is_paper(thing):
        return False
    word, rows, back = thing
    if back is not None and (word != "standing" or not back_holds(task, back)):
        return False
    if rows[0][0] != task.start() or not all([task.has(standing) for standing, worth, why in rows]):
        return False
    sheet = Sheet(task, thing)
    return all([row_holds(sheet, row) for row in rows])


def rest_paper_holds(task, thing):
    """Whether a thing, whatever it is, is a right paper of the rest of a task from its first standing."""
    if not is_tuple_of(thing, 3, 3) or not is_tuple_of(thing[1], 1, MOST_ROWS):
        return False
    first = thing[1][0]
    if not is_tuple_of(first, 3, 3) or not task.has(first[0]):
        return False
    return paper_holds(Rest(task, first[0]), thing)


def claim(paper):
    """What a right paper says: the first row's worth."""
    return paper[1][0][1]
