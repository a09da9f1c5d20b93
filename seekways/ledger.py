"""The rows of a book: how standings come to be known, and how rows are opened."""

from seekways.errors import TooWide
from seekways.looks import label, look, look_alike, refuse_break
from seekways.wholes import MOST_ROWS

WAITING = ("waiting",)
OPENED = ("opened",)
DONE = ("done",)
CUT = ("cut",)


class Ledger:
    """Rows by their numbers, and all openings in order."""

    def __init__(self, task, word):
        self.task = task
        self.word = word
        self.standings = []
        self.states = []
        # Of each row the pairs (cost, number) to the rows that it leads to.
        self.links = []
        self.places = {}
        # Of each label the row, waiting or opened, that others of it are like.
        self.holders = {}
        self.deeds = []

    def copied(self):
        """Another ledger with the same rows, so that a refused change can be dropped whole."""
        other = Ledger(self.task, self.word)
        other.standings = list(self.standings)
        other.states = list(self.states)
        other.links = list(self.links)
        other.places = {standing: self.places[standing] for standing in self.places}
        other.holders = {name: self.holders[name] for name in self.holders}
        other.deeds = list(self.deeds)
        return other

    def root(self, number):
        """The number of a row, or of the one that it is like."""
        state = self.states[number]
        return state[1] if state[0] == "like" else number

    def waits(self, number):
        """Whether there is such a row, and it waits."""
        return number is not None and self.states[number] == WAITING

    def learn(self, standing):
        """Let a standing come to be known, if it isn't."""
        if standing in self.places:
            return
        number = len(self.standings)
        if number == MOST_ROWS:
            raise TooWide(MOST_ROWS)
        state = self.state_for(standing)
        if state == WAITING:
            self.holders[label(self.task, self.word, standing)] = number
        self.places[standing] = number
        self.standings.append(standing)
        self.states.append(state)
        self.links.append(((0, state[1]),) if state[0] == "like" else ())

    def state_for(self, standing):
        """The state in which a standing comes to be known."""
        if self.task.is_done(standing):
            refuse_break(look(self.task, standing))
            return DONE
        if self.task.cut(standing):
            refuse_break(look(self.task, standing))
            return CUT
        # By "standing" a label is of one standing alone, so no row holds that of one that isn't known.
        number = self.holder_of(standing)
        if number is None:
            return WAITING
        refuse_break(look_alike(self.task, self.word, self.standings[number], standing))
        return ("like", number)

    def holder_of(self, standing):
        """The number of the row, waiting or opened, of a standing's label; None where there is none."""
        return self.holders.get(label(self.task, self.word, standing))

    def unfold(self, number):
        """Open a waiting row."""
        standing = self.standings[number]
        refuse_break(look(self.task, standing))
        nexts = self.task.nexts(standing)
        for cost, to in nexts:
            self.learn(to)
        self.links[number] = tuple([(cost, self.places[to]) for cost, to in nexts])
        self.states[number] = OPENED
        self.deeds.append(("row", number))

    def unfold_hinted(self, standings):
        """Open, each time, the first of these that waits, till none does; tell how many were."""
        many = 0
        number = self.first_waiting(standings)
        while number is not None:
            self.unfold(number)
            many += 1
            number = self.first_waiting(standings)
        return many

    def first_waiting(self, standings):
        """The number of the first of these that waits, None where none does."""
        for standing in standings:
            number = self.places.get(standing)
            if self.waits(number):
                return number
        return None

    def unfold_way(self, way):
        """Open, for each standing on a way, the waiting row that it is or whose label it has."""
        for standing in way:
            number = self.row_for(standing)
            if self.waits(number):
                self.unfold(number)

    def row_for(self, standing):
        """The number of the row that a standing is, is like or would be like; None where there is none."""
        number = self.places.get(standing)
        if number is None:
            return self.holder_of(standing)
        return self.root(number)
