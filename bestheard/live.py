"""Live networks: a network that is changed step by step, with its stand, and with its history."""

from bestheard.commands import Step
from bestheard.deciding import settled_state, settles
from bestheard.errors import EmptyHistory, InvalidLimit, UnknownCell, Unsettled
from bestheard.networks import Network
from bestheard.places import check_network
from bestheard.tables import tables_of
from bestheard.words import is_number

MOST_CELLS = 24


class Live:
    """A rulebook that settles, a network, and always its stand."""

    # A class value is a literal; it is the same number as MOST_CELLS.
    MOST = 24

    def __init__(self, book, *, network=None, limit=24):
        web = Network() if network is None else network.clone()
        _check_limit(limit, web)
        tables = tables_of(book)
        if not settles(tables):
            raise Unsettled()
        check_network(tables, web)
        self._limit = limit
        self._busy = False
        self._changed = []
        # Nothing of these four is changed later: a step puts others in their place.
        self._book = book
        self._tables = tables
        self._web = web
        self._stand = settled_state(tables, web)
        self._done = []
        self._undone = []

    @property
    def book(self):
        """The rulebook."""
        return self._book

    @property
    def stand(self):
        """The stand of the network."""
        return dict(self._stand)

    @property
    def changed(self):
        """The ascending list of the cells that came or hold something else since the last step, undo or redo."""
        return list(self._changed)

    @property
    def busy(self):
        """Whether commands are being applied."""
        return self._busy

    @property
    def limit(self):
        """How many cells there may be."""
        return self._limit

    @limit.setter
    def limit(self, value):
        self.set_limit(value)

    def set_limit(self, value):
        """Let there be so many cells and no more."""
        _check_limit(value, self._web)
        self._limit = value

    def apply(self, *commands):
        """Do all commands, in one step, or none of them if one raises an error."""
        self._busy = True
        try:
            step = Step(self._book, self._tables, self._web, self._limit)
            for command in commands:
                step.take(command)
            after = step.result()
            self._done.append(self._present())
            self._undone.clear()
            self._go_to(after)
        finally:
            self._busy = False

    def undo(self):
        """Take the last step back."""
        if len(self._done) == 0:
            raise EmptyHistory()
        self._undone.append(self._present())
        self._go_to(self._done.pop())

    def redo(self):
        """Make the step again that was taken back last."""
        if len(self._undone) == 0:
            raise EmptyHistory()
        self._done.append(self._present())
        self._go_to(self._undone.pop())

    def history(self):
        """Return the pair of the numbers of steps that can be undone and redone."""
        return len(self._done), len(self._undone)

    def web(self):
        """Return a clone of the network."""
        return self._web.clone()

    def value_of(self, name):
        """Return what a cell holds in the stand."""
        if name not in self:
            raise UnknownCell(name)
        return self._stand[name]

    def clone(self):
        """Return an independent live network with the same past and present."""
        other = Live(self._book, network=self._web)
        other._limit = self._limit
        other._changed = list(self._changed)
        other._done = list(self._done)
        other._undone = list(self._undone)
        return other

    def __contains__(self, name):
        return name in self._web

    def __len__(self):
        return len(self._web)

    def __eq__(self, other):
        if not isinstance(other, Live):
            return False
        return self._book == other._book and self._web == other._web

    def __repr__(self):
        return f"Live({len(self._web)} cells, {len(self._web.ties())} ties)"

    def _present(self):
        return self._book, self._tables, self._web, self._stand

    def _go_to(self, present):
        """Let what is there now be this, which is such a tuple as _present returns, and tell which cells changed."""
        before = self._stand
        self._book, self._tables, self._web, self._stand = present
        self._changed = sorted([cell for cell, held in self._stand.items()
                                if cell not in before or before[cell] != held])


def _check_limit(value, network):
    if not is_number(value, max(1, len(network)), MOST_CELLS):
        raise InvalidLimit(value)
