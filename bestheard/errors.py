"""The errors of the package, one class for each kind of failure."""

from bestheard.copies import copy_of


class BestError(ValueError):
    """Something that was given is wrong, or cannot be done."""


class Missing(LookupError):
    """Something that was asked for is not there."""


class InvalidField(BestError):
    """A field of a rulebook is wrong."""

    def __init__(self, position):
        self.position = copy_of(position)
        self.code = "InvalidField"


class InvalidTie(BestError):
    """A tie of a rulebook is wrong."""

    def __init__(self, position):
        self.position = copy_of(position)
        self.code = "InvalidTie"


class InvalidKind(BestError):
    """A kind of a rulebook is wrong."""

    def __init__(self, position):
        self.position = copy_of(position)
        self.code = "InvalidKind"


class InvalidHolding(BestError):
    """A value is no holding."""

    def __init__(self, given):
        self.given = copy_of(given)
        self.code = "InvalidHolding"


class InvalidRulebook(BestError):
    """A text is not that of a rulebook."""

    def __init__(self, line):
        self.line = copy_of(line)
        self.code = "InvalidRulebook"


class InvalidName(BestError):
    """A value is no name."""

    def __init__(self, given):
        self.given = copy_of(given)
        self.code = "InvalidName"


class InvalidNetwork(BestError):
    """A text is not that of a network."""

    def __init__(self, line):
        self.line = copy_of(line)
        self.code = "InvalidNetwork"


class InvalidState(BestError):
    """A state has no holding for a cell."""

    def __init__(self, cell):
        self.cell = copy_of(cell)
        self.code = "InvalidState"


class InvalidLook(BestError):
    """A cell cannot look in this way."""

    def __init__(self, cell):
        self.cell = copy_of(cell)
        self.code = "InvalidLook"


class InvalidCount(BestError):
    """A value is no number, or none within its bounds."""

    def __init__(self, given):
        self.given = copy_of(given)
        self.code = "InvalidCount"


class InvalidCommand(BestError):
    """A value has not the form of a command."""

    def __init__(self, word):
        self.word = copy_of(word)
        self.code = "InvalidCommand"


class InvalidLimit(BestError):
    """A value cannot be the limit of a live network."""

    def __init__(self, given):
        self.given = copy_of(given)
        self.code = "InvalidLimit"


class InvalidPage(BestError):
    """A text is not the page of a live network."""

    def __init__(self, line):
        self.line = copy_of(line)
        self.code = "InvalidPage"


class DuplicateCell(BestError):
    """A network has a cell of this name already."""

    def __init__(self, name):
        self.name = copy_of(name)
        self.code = "DuplicateCell"


class DuplicateTie(BestError):
    """A network has this tie already."""

    def __init__(self, tie):
        self.tie = copy_of(tie)
        self.code = "DuplicateTie"


class KindsDiffer(BestError):
    """A cell has different kinds in two networks."""

    def __init__(self, name):
        self.name = copy_of(name)
        self.code = "KindsDiffer"


class BooksDiffer(BestError):
    """Rulebooks differ where they must not."""

    def __init__(self):
        self.code = "BooksDiffer"


class Unsettled(BestError):
    """A rulebook does not settle."""

    def __init__(self):
        self.code = "Unsettled"


class Full(BestError):
    """A live network has as many cells as its limit."""

    def __init__(self, limit):
        self.limit = copy_of(limit)
        self.code = "Full"


class EmptyHistory(BestError):
    """There is no step to undo or to redo."""

    def __init__(self):
        self.code = "EmptyHistory"


class UnknownCell(Missing):
    """A network has no cell of this name."""

    def __init__(self, name):
        self.name = copy_of(name)
        self.code = "UnknownCell"


class UnknownKind(Missing):
    """A rulebook has no kind of this name."""

    def __init__(self, name):
        self.name = copy_of(name)
        self.code = "UnknownKind"


class UnknownTie(Missing):
    """A rulebook has no tie of this name."""

    def __init__(self, name):
        self.name = copy_of(name)
        self.code = "UnknownTie"


class UnknownField(Missing):
    """A rulebook has no field of this name."""

    def __init__(self, name):
        self.name = copy_of(name)
        self.code = "UnknownField"


class MissingTie(Missing):
    """A network has no such tie."""

    def __init__(self, tie):
        self.tie = copy_of(tie)
        self.code = "MissingTie"


class UnknownMoment(Missing):
    """A run has no such moment."""

    def __init__(self, given):
        self.given = copy_of(given)
        self.code = "UnknownMoment"
