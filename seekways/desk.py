"""A desk: tasks and ways by their names, told what to do by rows of text."""

from seekways.deeds import done_text
from seekways.errors import NoRow
from seekways.shelf import Shelf
from seekways.texts import is_number

MOST_LETTERS = 8
LETTERS = "abcdefghijklmnopqrstuvwxyz"
MARGIN = "  "
FORMS = (
    "task NAME",
    "way NAME of NAME by NAME",
    "way NAME of NAME by NAME alike NAME",
    "go NAME NUMBER",
    "tell NAME",
    "progress NAME",
    "hint NAME from NAME",
    "offer NAME from NAME",
    "take NAME from NAME",
    "write NAME",
    "read NAME",
    "carry NAME to NAME",
    "drop NAME",
)


def rows_of(text):
    """The rows of a text; behind its last line feed one stands, too, if something stands there."""
    rows = text.split("\n")
    return rows if rows[-1] != "" else rows[:-1]


def is_name(word):
    """Whether a word is one to eight small letters."""
    return 1 <= len(word) <= MOST_LETTERS and all([letter in LETTERS for letter in word])


def word_fits(word, form):
    """Whether a word is what a form has there."""
    if form == "NAME":
        return is_name(word)
    return is_number(word) if form == "NUMBER" else word == form


def parts_by(form, row):
    """The names and numbers that a row has by a form, None where it hasn't that form."""
    words = row.split(" ")
    wanted = form.split(" ")
    if len(words) != len(wanted):
        return None
    if not all([word_fits(word, one) for word, one in zip(words, wanted)]):
        return None
    return [word for word, one in zip(words, wanted) if one in ("NAME", "NUMBER")]


def parts_of(row):
    """The names and numbers of a row, None where it is none."""
    for form in FORMS:
        parts = parts_by(form, row)
        if parts is not None:
            return parts
    return None


def belonging(rows, at):
    """The rows of text that belong to the row at a place, without their margins."""
    found = []
    while at + 1 < len(rows) and rows[at + 1].startswith(MARGIN):
        at += 1
        found.append(rows[at][len(MARGIN):])
    return found


class Desk:
    """Tasks, ways and a log of the texts that were gone through."""

    def __init__(self):
        self.shelf = Shelf()
        self.entries = []
        self.busy = False

    def log(self):
        """The beginning and the end of each text."""
        return tuple(self.entries)

    def is_free(self):
        """Whether no text is being gone through."""
        return not self.busy

    def run(self, text):
        """Go through the rows of a text, and tell a text of each."""
        rows = rows_of(text)
        told = []
        at = 0
        self.entries.append(("begin", len(rows)))
        self.busy = True
        try:
            while at < len(rows):
                lines = self.run_row(rows, at, told)
                at += 1 + lines
        finally:
            self.busy = False
            self.entries.append(("end", at))
        return tuple(told)

    def run_row(self, rows, at, told):
        """Do one row, and put down what it tells; tell how many rows belong to it."""
        parts = parts_of(rows[at])
        if parts is None:
            raise NoRow(at)
        word = rows[at].split(" ")[0]
        lines = belonging(rows, at) if word == "task" else []
        if word == "task":
            parts.append("".join([line + "\n" for line in lines]))
        told.append(done_text(self.shelf, word, parts))
        return len(lines)
