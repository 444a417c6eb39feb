"""Networks: cells with their kinds, and ties between them."""

from bestheard.errors import (DuplicateCell, DuplicateTie, InvalidName, InvalidNetwork, KindsDiffer, MissingTie,
                              UnknownCell)
from bestheard.words import is_name

# What stands behind the name of a kind of a mixture.
NUMBERS = (".0", ".1", ".2")


class Network:
    """Cells and ties, both in the order in which they came."""

    def __init__(self, *, cells=(), ties=()):
        self._cells = _kinds_of(cells)
        self._ties = _ties_between(self._cells, ties)

    @classmethod
    def read(cls, text):
        """Return the network of a text."""
        if not isinstance(text, str):
            raise InvalidNetwork(0)
        *lines, rest = text.split("\n")
        network = cls()
        for number, line in enumerate(lines):
            if not network.take(line):
                raise InvalidNetwork(number)
        if rest != "":
            raise InvalidNetwork(len(lines))
        return network

    def take(self, line):
        """Read the next line of a text and tell whether it may stand there; a line that may not changes nothing."""
        words = line.split(" ")
        try:
            if words[0] == "cell" and len(words) == 3 and len(self._ties) == 0:
                self.add_cell(words[1], words[2])
                return True
            if words[0] == "tie" and len(words) == 4:
                self.add_tie(words[1], words[2], words[3])
                return True
        except (InvalidName, DuplicateCell, UnknownCell, DuplicateTie):
            return False
        return False

    def add_cell(self, name, kind):
        """Put a cell behind the others."""
        _check_cell(self._cells, name, kind)
        self._cells[name] = kind

    def add_tie(self, tie, source, target):
        """Put a tie behind the others."""
        _check_tie(self._cells, self._ties, tie, source, target)
        self._ties[(tie, source, target)] = True

    def cut(self, tie, source, target):
        """Remove a tie."""
        words = (tie, source, target)
        if not all([isinstance(word, str) for word in words]) or words not in self._ties:
            raise MissingTie(words)
        del self._ties[words]

    def drop(self, name):
        """Remove a cell with all ties from it and into it."""
        self._check_known(name)
        del self._cells[name]
        self._ties = {tie: True for tie in self._ties if name not in tie[1:]}

    def cells(self):
        """Return the list of the names of the cells."""
        return list(self._cells)

    def ties(self):
        """Return the list of the ties, tuples (tie, source, target)."""
        return list(self._ties)

    def ties_into(self, name):
        """Return the list of the ties into a cell."""
        self._check_known(name)
        return [tie for tie in self._ties if tie[2] == name]

    def ties_from(self, name):
        """Return the list of the ties from a cell."""
        self._check_known(name)
        return [tie for tie in self._ties if tie[1] == name]

    def __getitem__(self, name):
        self._check_known(name)
        return self._cells[name]

    def __setitem__(self, name, kind):
        self._check_known(name)
        if not _is_kind(kind):
            raise InvalidName(kind)
        self._cells[name] = kind

    def set_kind(self, name, kind):
        """Give a cell another kind."""
        self[name] = kind

    def __iter__(self):
        raise TypeError("a network is not iterable: take its cells() or its ties()")

    def __contains__(self, name):
        return isinstance(name, str) and name in self._cells

    def __len__(self):
        return len(self._cells)

    def __eq__(self, other):
        if not isinstance(other, Network):
            return False
        return self._cells == other._cells and self._ties == other._ties

    def is_part_of(self, other):
        """Tell whether the other network has all cells of this one, with the same kinds, and all its ties."""
        return (all([name in other and other[name] == kind for name, kind in self._cells.items()])
                and all([tie in other._ties for tie in self._ties]))

    def __or__(self, other):
        if not isinstance(other, Network):
            return NotImplemented
        self._check_kinds(other)
        more_cells = [(name, other[name]) for name in other.cells() if name not in self]
        more_ties = [tie for tie in other.ties() if tie not in self._ties]
        return Network(cells=list(self._cells.items()) + more_cells, ties=self.ties() + more_ties)

    def __ior__(self, other):
        if not isinstance(other, Network):
            return NotImplemented
        joined = self | other
        self._cells, self._ties = joined._cells, joined._ties
        return self

    def walk(self, start):
        """Yield the pairs (name, distance) of all cells to which ways lead from the start, the nearest first."""
        self._check_known(start)
        # All of them are found at once, so that a change of the network in between does no harm.
        yield from self._found_from(start)

    def clone(self):
        """Return an independent network with the same cells and ties."""
        return Network(cells=list(self._cells.items()), ties=self.ties())

    def text(self):
        """Return the text that read takes."""
        cells = [f"cell {name} {kind}\n" for name, kind in self._cells.items()]
        ties = [f"tie {tie} {source} {target}\n" for tie, source, target in self._ties]
        return "".join(cells + ties)

    def __repr__(self):
        return f"Network({len(self._cells)} cells, {len(self._ties)} ties)"

    def _check_known(self, name):
        if name not in self:
            raise UnknownCell(name)

    def _check_kinds(self, other):
        for name, kind in self._cells.items():
            if name in other and other[name] != kind:
                raise KindsDiffer(name)

    def _found_from(self, start):
        distances = {start: 0}
        found = [start]
        at = 0
        while at < len(found):
            for _, source, target in self.ties_from(found[at]):
                if target not in distances:
                    distances[target] = distances[source] + 1
                    found.append(target)
            at += 1
        return list(distances.items())


def _kinds_of(cells):
    kinds = {}
    for name, kind in cells:
        _check_cell(kinds, name, kind)
        kinds[name] = kind
    return kinds


def _ties_between(kinds, ties):
    # The ties are the keys of a dict: it keeps their order, and two of them are equal in whatever order.
    found = {}
    for tie, source, target in ties:
        _check_tie(kinds, found, tie, source, target)
        found[(tie, source, target)] = True
    return found


def _check_cell(kinds, name, kind):
    if not is_name(name):
        raise InvalidName(name)
    if name in kinds:
        raise DuplicateCell(name)
    if not _is_kind(kind):
        raise InvalidName(kind)


def _check_tie(kinds, ties, tie, source, target):
    if not is_name(tie):
        raise InvalidName(tie)
    for name in (source, target):
        if not isinstance(name, str) or name not in kinds:
            raise UnknownCell(name)
    if (tie, source, target) in ties:
        raise DuplicateTie((tie, source, target))


def _is_kind(value):
    if isinstance(value, str) and value.endswith(NUMBERS):
        return is_name(value[:-2])
    return is_name(value)
