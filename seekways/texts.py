"""Texts of told tasks, written and read."""

from seekways.errors import NoText
from seekways.forms import MOST_TURNS
from seekways.told import MOST_TOLD, Told

MOST_SIGNS = 20000
MOST_FIGURES = 6
FIGURES = "0123456789"
# What stands behind a row that is done, cut, or both.
MARKS = ((), ("done",), ("cut",), ("done", "cut"))


def pairs_text(pairs, word):
    """Pairs (cost, number) as a text, with a word between both."""
    return ", ".join([f"{cost} {word} {number}" for cost, number in pairs]) if pairs else "-"


def row_text(at, row):
    """A row of a table as a text."""
    nexts, done, name, bound, cut = row
    marks = (" done" if done else "") + (" cut" if cut else "")
    return f"row {at}: {pairs_text(nexts, 'to')}; name {name}, bound {bound}{marks}"


def listed_text(word, numbers):
    """A word and numbers behind it as a text."""
    return " ".join([word] + [str(number) for number in numbers])


def task_text(told):
    """A told task as a text."""
    rows = [row_text(at, row) for at, row in enumerate(told.table)]
    rows += [listed_text("turn", turn) for turn in told.maps]
    if told.targets is not None:
        rows.append(listed_text("ends", told.targets))
        rows += [f"heads {at}: {pairs_text(head, 'of')}" for at, head in enumerate(told.heads)]
    return "".join([row + "\n" for row in rows])


def is_number(text):
    """Whether a text is one to six figures without needless noughts."""
    if not 1 <= len(text) <= MOST_FIGURES or not all([sign in FIGURES for sign in text]):
        return False
    return text == "0" or text[0] != "0"


def as_numbers(words):
    """The numbers that words are, None where one isn't."""
    return tuple([int(word) for word in words]) if all([is_number(word) for word in words]) else None


def as_pair(text, word):
    """The pair that a text like `2 to 1` is, None where it is none."""
    words = text.split(" ")
    return as_numbers([words[0], words[2]]) if len(words) == 3 and words[1] == word else None


def as_pairs(text, word):
    """The pairs that a text is, None where it is none."""
    if text == "-":
        return ()
    pairs = tuple([as_pair(part, word) for part in text.split(", ")])
    return None if None in pairs else pairs


def as_row(text):
    """The row of a table that a text behind `row 0: ` is, None where it is none."""
    nexts, sign, rest = text.partition("; name ")
    name, other_sign, rest = rest.partition(", bound ")
    bound, *marks = rest.split(" ")
    pairs = as_pairs(nexts, "to")
    numbers = as_numbers([name, bound])
    if pairs is None or numbers is None or tuple(marks) not in MARKS:
        return None
    return (pairs, "done" in marks, *numbers, "cut" in marks)


def behind(text, start):
    """What stands behind the start of a text, None where it starts otherwise."""
    return text[len(start):] if text.startswith(start) else None


class Draft:
    """What was read so far of a told task's text, row by row."""

    def __init__(self):
        self.rows = []
        self.turns = []
        self.targets = None
        self.heads = []

    def read_line(self, line):
        """Read one row of the text; tell whether it is written so where it stands."""
        if self.targets is not None:
            return self.read_head(line)
        if not self.turns and self.read_row(line):
            return True
        return len(self.rows) > 0 and (self.read_turn(line) or self.read_ends(line))

    def read_row(self, line):
        """Read a row of the table, if it is one."""
        text = behind(line, f"row {len(self.rows)}: ")
        row = None if text is None else as_row(text)
        if row is None or len(self.rows) == MOST_TOLD:
            return False
        self.rows.append(row)
        return True

    def read_turn(self, line):
        """Read a turning, if it is one."""
        text = behind(line, "turn ")
        turn = None if text is None else as_numbers(text.split(" "))
        if turn is None or len(self.turns) == MOST_TURNS:
            return False
        self.turns.append(turn)
        return True

    def read_ends(self, line):
        """Read the ends, if they are these."""
        text = behind(line, "ends ")
        if line == "ends":
            self.targets = ()
        elif text is not None:
            self.targets = as_numbers(text.split(" "))
        return self.targets is not None

    def read_head(self, line):
        """Read what is ahead of a row, if it is that."""
        text = behind(line, f"heads {len(self.heads)}: ")
        head = None if text is None else as_pairs(text, "of")
        if head is None or len(self.heads) == len(self.rows):
            return False
        self.heads.append(head)
        return True

    def lacks_row(self):
        """Whether one more row has to come."""
        return not self.rows or (self.targets is not None and len(self.heads) < len(self.rows))

    def made_task(self):
        """The told task that was read."""
        heads = None if self.targets is None else tuple(self.heads)
        return Told(tuple(self.rows), turns=tuple(self.turns), ends=self.targets, heads=heads)


def read_task(text):
    """The told task that a text is."""
    if not isinstance(text, str) or len(text) > MOST_SIGNS:
        raise NoText(0)
    # Behind the last line feed nothing stands.
    *lines, rest = text.split("\n")
    draft = Draft()
    for at, line in enumerate(lines):
        if not draft.read_line(line):
            raise NoText(at)
    if rest != "" or draft.lacks_row():
        raise NoText(len(lines))
    return draft.made_task()
