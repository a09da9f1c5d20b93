"""The book: known rows of a task, what they say of its answers, and the paper for that."""

from seekways.answers import at_most, is_answer, way_of
from seekways.backing import Backing
from seekways.errors import BadHint, BadNumber, BadPaper, BadSteps, BadWay, Broken
from seekways.forms import is_between, is_tuple_of
from seekways.ledger import OPENED, WAITING, Ledger
from seekways.looks import refuse_break
from seekways.papers import NEXT, rest_paper_holds
from seekways.reckoning import lower_values, reached_values, upper_values
from seekways.routes import answer_steps
from seekways.wholes import MOST_ROWS, NEVER, WORDS, is_standing


class Book:
    """What is known of a task, by a word."""

    def __init__(self, task, *, alike="name", back=False):
        if alike not in WORDS:
            raise BadWay((alike,))
        if back and alike != "standing":
            raise BadWay(("alike",))
        if back and task.ends() is None:
            raise BadWay(("ends",))
        self.task = task
        self.ledger = Ledger(task, alike)
        self.ledger.learn(task.start())
        self.backing = Backing(task) if back else None
        self.fault = None
        self.forget_values()

    def alike(self):
        """The book's word."""
        return self.ledger.word

    def known(self):
        """How many rows are known."""
        return len(self.ledger.standings)

    def standing_of(self, number):
        """The standing of a row."""
        return self.ledger.standings[number]

    def state_of(self, number):
        """The state of a row."""
        return self.ledger.states[number]

    def number_of(self, standing):
        """The number of a standing's row, None where it isn't known."""
        return self.ledger.places.get(standing) if is_standing(standing) else None

    def waiting(self):
        """The numbers of the rows that wait, rising."""
        return tuple([number for number, state in enumerate(self.ledger.states) if state == WAITING])

    def openings(self):
        """What was opened, in order: rows and back steps."""
        return tuple(self.ledger.deeds)

    def progress(self):
        """How many rows don't wait, and how many do."""
        many = len(self.waiting())
        return (self.known() - many, many)

    def is_broken(self):
        """Whether a break was met."""
        return self.fault is not None

    def open_row(self, number):
        """Open a waiting row."""
        refuse_break(self.fault)
        if not is_between(number, 0, self.known() - 1) or not self.ledger.waits(number):
            raise BadNumber(number)
        ledger = self.ledger.copied()
        self.attempted(lambda: ledger.unfold(number))
        self.take_over(ledger)

    def open_back(self):
        """Do a back step; tell the standing settled, None where there is none to settle."""
        refuse_break(self.fault)
        if self.backing is None:
            return None
        backing = self.backing.copied()
        standing = self.attempted(lambda: backing.settle())
        if standing is not None:
            self.backing = backing
            self.ledger.deeds.append(("back", standing))
            self.forget_values()
        return standing

    def next_back(self):
        """The standing that a back step would settle, None where there is none."""
        return None if self.backing is None else self.backing.nearest()

    def hint(self, things):
        """Open all rows that wait of these standings; tell how many."""
        refuse_break(self.fault)
        if not is_tuple_of(things, 0, MOST_ROWS):
            raise BadHint()
        standings = [thing for thing in things if is_standing(thing)]
        ledger = self.ledger.copied()
        many = self.attempted(lambda: ledger.unfold_hinted(standings))
        self.take_over(ledger)
        return many

    def offer(self, steps):
        """Open the rows that wait along an answer; tell the best."""
        refuse_break(self.fault)
        if not is_answer(self.task, steps):
            raise BadSteps()
        way = way_of(self.task, steps)
        ledger = self.ledger.copied()
        self.attempted(lambda: ledger.unfold_way(way))
        self.take_over(ledger)
        return self.best()

    def take(self, paper):
        """Open what a right paper of a rest of the task opens; tell how many rows."""
        refuse_break(self.fault)
        if not rest_paper_holds(self.task, paper):
            raise BadPaper()
        return self.hint(tuple([standing for standing, worth, why in paper[1] if why == NEXT]))

    def base(self, number):
        """What a waiting row stands for: its bound, or what the back lets, if that is more."""
        refuse_break(self.fault)
        standing = self.ledger.standings[number]
        bound = self.task.bound(standing)
        if self.backing is None:
            return bound
        far = self.backing.far(standing)
        return bound if at_most(far, bound) else far

    def lower(self, number):
        """The lower value of a row."""
        refuse_break(self.fault)
        if self.lows is None:
            bases = {one: self.base(one) for one in self.waiting()}
            self.lows = lower_values(self.ledger, bases)
        return self.lows[number]

    def upper(self, number):
        """The upper value of a row, None or (cost, steps)."""
        refuse_break(self.fault)
        if self.highs is None:
            self.highs = upper_values(self.ledger, self.settled_marks())
        return self.highs[number]

    def reached(self, number):
        """The least cost over known ways to a row."""
        refuse_break(self.fault)
        if self.spans is None:
            self.spans = reached_values(self.ledger)
        return self.spans[number]

    def bound(self):
        """What any answer costs at least, NEVER where there is none."""
        return self.lower(0)

    def best(self):
        """What the best answer known costs, None where none is."""
        high = self.upper(0)
        return None if high is None else high[0]

    def answer(self):
        """The steps of the best answer known, None where none is; a break met so breaks the book."""
        if self.best() is None:
            return None
        return self.attempted(lambda: answer_steps(self.ledger, self.highs, self.settled_marks()))

    def paper(self):
        """The paper that says the bound."""
        rows = [(standing, self.lower(number), self.why_of(number))
                for number, standing in enumerate(self.ledger.standings)]
        return (self.alike(), tuple(rows), self.back_told())

    def told(self):
        """What the book tells: broken, never, best, or open."""
        if self.fault is not None:
            return ("broken", *self.fault)
        bound = self.bound()
        best = self.best()
        if bound == NEVER:
            return ("never",)
        if best == bound:
            return ("best", best)
        return ("open", bound, best)

    def back_told(self):
        """The form of the back, None where there is none."""
        return None if self.backing is None else self.backing.told_back()

    def why_of(self, number):
        """The why of a row in the paper."""
        state = self.ledger.states[number]
        if state == OPENED:
            return NEXT
        if state != WAITING:
            return state
        return ("bound",) if self.base(number) == self.task.bound(self.ledger.standings[number]) else ("far",)

    def settled_marks(self):
        """What the back has of each settled standing, nothing where there is no back."""
        return {} if self.backing is None else self.backing.settled

    def attempted(self, deed):
        """What a deed tells; a break that it meets breaks the book."""
        try:
            return deed()
        except Broken as e:
            self.fault = (e.saying, e.standing, e.other)
            raise

    def take_over(self, ledger):
        """Let a copy with rows opened be the book's ledger."""
        self.ledger = ledger
        self.forget_values()

    def forget_values(self):
        """Let values be reckoned anew when they are asked."""
        self.lows = None
        self.highs = None
        self.spans = None
