"""Commands: what they do to the network and the rulebook of a live network."""

from bestheard.deciding import settled_state, settles
from bestheard.errors import (DuplicateCell, Full, InvalidCommand, InvalidName, UnknownCell, UnknownKind, UnknownTie,
                              Unsettled)
from bestheard.places import check_network
from bestheard.rulebooks import Rulebook
from bestheard.tables import tables_of
from bestheard.words import is_name

# The number of items of each command, the word included.
LENGTHS = {"cell": 3, "drop": 2, "kind": 3, "tie": 4, "cut": 4, "rules": 2}


class Step:
    """What a live network comes to while the commands of a step are done; the network that it is given stays."""

    def __init__(self, book, tables, network, limit):
        self._rules = book
        self._tables = tables
        self._network = network.clone()
        self._most = limit

    def take(self, command):
        """Do a command, which may be any value; one that raises an error changes nothing."""
        word = _word_of(command)
        if word == "cell":
            self._add_cell(command[1], command[2])
        elif word == "drop":
            self._network.drop(command[1])
        elif word == "kind":
            self._set_kind(command[1], command[2])
        elif word == "tie":
            self._add_tie(command[1], command[2], command[3])
        elif word == "cut":
            self._network.cut(command[1], command[2], command[3])
        else:
            self._set_rules(command[1])

    def result(self):
        """Return the rulebook, its tables, the network and its stand."""
        return self._rules, self._tables, self._network, settled_state(self._tables, self._network)

    def _add_cell(self, name, kind):
        if not is_name(name):
            raise InvalidName(name)
        if name in self._network:
            raise DuplicateCell(name)
        self._check_kind(kind)
        if len(self._network) >= self._most:
            raise Full(self._most)
        self._network.add_cell(name, kind)

    def _set_kind(self, name, kind):
        if name not in self._network:
            raise UnknownCell(name)
        self._check_kind(kind)
        self._network.set_kind(name, kind)

    def _add_tie(self, tie, source, target):
        if tie not in self._tables.ties():
            raise UnknownTie(tie)
        self._network.add_tie(tie, source, target)

    def _set_rules(self, text):
        book = Rulebook.read(text)
        tables = tables_of(book)
        if not settles(tables):
            raise Unsettled()
        check_network(tables, self._network)
        self._rules, self._tables = book, tables

    def _check_kind(self, kind):
        if kind not in self._tables.kinds():
            raise UnknownKind(kind)


def _word_of(command):
    """Return the word of a command; a value that is none is refused."""
    if not isinstance(command, tuple) or len(command) == 0:
        raise InvalidCommand(None)
    word = command[0]
    if not isinstance(word, str) or LENGTHS.get(word) != len(command):
        raise InvalidCommand(word)
    return word
