"""Every refusal of the package, each made of its fields."""


class SeekError(ValueError):
    """Any refusal."""


class BadTask(SeekError):
    """What was handed in makes no task; place tells where."""

    def __init__(self, place):
        self.place = place


class Broken(SeekError):
    """A task broke one of its sayings."""

    def __init__(self, saying, standing, other):
        self.saying = saying
        self.standing = standing
        self.other = other


class TooWide(SeekError):
    """There would be more rows or standings than may be."""

    def __init__(self, most):
        self.most = most


class TooMany(SeekError):
    """There would be more answers, leaves or steps than may be."""

    def __init__(self, most):
        self.most = most


class BadWay(SeekError):
    """A way can't be made so."""

    def __init__(self, word):
        self.word = word


class BadNumber(SeekError):
    """A number isn't one that may be handed in there."""

    def __init__(self, number):
        self.number = number


class BadHint(SeekError):
    """A hint hasn't the form of one."""


class BadSteps(SeekError):
    """Steps that are offered are no answer."""


class BadPaper(SeekError):
    """A paper that is handed over isn't right."""


class BadWritten(SeekError):
    """What was written can't be read."""


class BadEdit(SeekError):
    """An edit can't be made."""


class NoText(SeekError):
    """A text isn't that of a told task; row tells where."""

    def __init__(self, row):
        self.row = row


class NoRow(SeekError):
    """A desk's text has a row that is none."""

    def __init__(self, row):
        self.row = row


class NoName(SeekError):
    """A name isn't there, or may not be given."""
