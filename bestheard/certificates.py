"""Certificates: answers that can be checked without searching.

A certificate keeps copies of what it is given and never changes. Each method that has the name of a parameter
returns a copy of what was given for this parameter.
"""

from bestheard.checks import is_list
from bestheard.conditions import (books_part, liars_sway, limits_agree, limits_do_no_harm, limits_keep_firm,
                                  limits_settle, stands_differ, tie_harms, way_is_hidden, ways_stay_open)
from bestheard.copies import copy_of
from bestheard.runs import Run


class Certificate:
    """What all certificates can be asked; a certificate that is nothing else never holds."""

    def told(self):
        """Return the word for what is certified."""
        return "unknown"

    def holds(self):
        """Tell whether the certificate is right."""
        return False

    def __bool__(self):
        return False

    def __repr__(self):
        return f"Certificate({self.told()})"


class Settles(Certificate):
    """The tables settle: rounds of limits lead to the ones by which no uneven pair is possible."""

    def __init__(self, tables, rounds):
        self.tables = tables
        self._rounds = copy_of(rounds)

    def rounds(self):
        return copy_of(self._rounds)

    @property
    def delay(self):
        """The length of the rounds less 1, or None if they are no list."""
        return len(self._rounds) - 1 if is_list(self._rounds) else None

    def told(self):
        return "settles"

    def holds(self):
        return limits_settle(self.tables, self._rounds)

    def __bool__(self):
        return True

    def __repr__(self):
        return f"Certificate({self.told()})"


class Splits(Certificate):
    """The tables do not settle: a network has two stands."""

    def __init__(self, tables, web, first, second):
        self.tables = tables
        self._web = web.clone()
        self._first = copy_of(first)
        self._second = copy_of(second)

    def web(self):
        return self._web.clone()

    def first(self):
        return copy_of(self._first)

    def second(self):
        return copy_of(self._second)

    def beating(self):
        """Return a run that never rests if all cells look two moments back in each step."""
        return Run(self.tables, self._web, [self._second, self._first])

    def told(self):
        return "splits"

    def holds(self):
        return stands_differ(self.tables, self._web, self._first, self._second)

    def __bool__(self):
        return False

    def __repr__(self):
        return f"Certificate({self.told()})"


class Agree(Certificate):
    """Two rulebooks agree, as seen: limits of both sides leave nothing possible that differs."""

    def __init__(self, tables, others, seen, rounds):
        self.tables = tables
        self.others = others
        self._seen = copy_of(seen)
        self._rounds = copy_of(rounds)

    def seen(self):
        return copy_of(self._seen)

    def rounds(self):
        return copy_of(self._rounds)

    def told(self):
        return "agree"

    def holds(self):
        return limits_agree(self.tables, self.others, self._seen, self._rounds)

    def __bool__(self):
        return True

    def __repr__(self):
        return f"Certificate({self.told()})"


class Part(Certificate):
    """Two rulebooks do not agree, as seen: their stands on a network differ at a cell."""

    def __init__(self, tables, others, seen, web, first, second, spot):
        self.tables = tables
        self.others = others
        self._seen = copy_of(seen)
        self._web = web.clone()
        self._first = copy_of(first)
        self._second = copy_of(second)
        self._spot = copy_of(spot)

    def seen(self):
        return copy_of(self._seen)

    def web(self):
        return self._web.clone()

    def first(self):
        return copy_of(self._first)

    def second(self):
        return copy_of(self._second)

    def spot(self):
        return copy_of(self._spot)

    def told(self):
        return "part"

    def holds(self):
        return books_part(self.tables, self.others, self._seen, self._web, (self._first, self._second), self._spot)

    def __bool__(self):
        return False

    def __repr__(self):
        return f"Certificate({self.told()})"


class Harmless(Certificate):
    """A tie more does no harm: limits of both sides leave nothing possible that is worse with more ties."""

    def __init__(self, tables, rounds):
        self.tables = tables
        self._rounds = copy_of(rounds)

    def rounds(self):
        return copy_of(self._rounds)

    def told(self):
        return "harmless"

    def holds(self):
        return limits_do_no_harm(self.tables, self._rounds)

    def __bool__(self):
        return True

    def __repr__(self):
        return f"Certificate({self.told()})"


class Harmed(Certificate):
    """A tie more does harm: a cell holds worse in the stand with it than in the one without it."""

    def __init__(self, tables, web, extra, first, second, spot):
        self.tables = tables
        self._web = web.clone()
        self._extra = copy_of(extra)
        self._first = copy_of(first)
        self._second = copy_of(second)
        self._spot = copy_of(spot)

    def web(self):
        return self._web.clone()

    def extra(self):
        return copy_of(self._extra)

    def first(self):
        return copy_of(self._first)

    def second(self):
        return copy_of(self._second)

    def spot(self):
        return copy_of(self._spot)

    def told(self):
        return "harmed"

    def holds(self):
        return tie_harms(self.tables, self._web, self._extra, (self._first, self._second), self._spot)

    def __bool__(self):
        return False

    def __repr__(self):
        return f"Certificate({self.told()})"


class Firm(Certificate):
    """Liars do not sway a kind: limits leave no uneven pair of it possible, whatever comes along the lies."""

    def __init__(self, tables, kind, lies, rounds):
        self.tables = tables
        self._asked_kind = copy_of(kind)
        self._lies = copy_of(lies)
        self._rounds = copy_of(rounds)

    def kind(self):
        return copy_of(self._asked_kind)

    def lies(self):
        return copy_of(self._lies)

    def rounds(self):
        return copy_of(self._rounds)

    def told(self):
        return "firm"

    def holds(self):
        return limits_keep_firm(self.tables, self._asked_kind, self._lies, self._rounds)

    def __bool__(self):
        return True

    def __repr__(self):
        return f"Certificate({self.told()})"


class Swayed(Certificate):
    """Liars sway a kind: by what they hold a cell of it differs in two states that stay."""

    def __init__(self, tables, kind, lies, web, liars, first, second, spot):
        self.tables = tables
        self._asked_kind = copy_of(kind)
        self._lies = copy_of(lies)
        self._web = web.clone()
        self._liars = copy_of(liars)
        self._first = copy_of(first)
        self._second = copy_of(second)
        self._spot = copy_of(spot)

    def kind(self):
        return copy_of(self._asked_kind)

    def lies(self):
        return copy_of(self._lies)

    def web(self):
        return self._web.clone()

    def liars(self):
        return copy_of(self._liars)

    def first(self):
        return copy_of(self._first)

    def second(self):
        return copy_of(self._second)

    def spot(self):
        return copy_of(self._spot)

    def told(self):
        return "swayed"

    def holds(self):
        return liars_sway(self.tables, self._asked_kind, self._lies, self._web, self._liars,
                          (self._first, self._second), self._spot)

    def __bool__(self):
        return False

    def __repr__(self):
        return f"Certificate({self.told()})"


class Open(Certificate):
    """No way stays hidden: of all that can stand, nothing is behind what ways can bring beside it."""

    def __init__(self, tables, standing, pairs):
        self.tables = tables
        self._standing = copy_of(standing)
        self._pairs = copy_of(pairs)

    def standing(self):
        return copy_of(self._standing)

    def pairs(self):
        return copy_of(self._pairs)

    def told(self):
        return "open"

    def holds(self):
        return ways_stay_open(self.tables, self._standing, self._pairs)

    def __bool__(self):
        return True

    def __repr__(self):
        return f"Certificate({self.told()})"


class Hidden(Certificate):
    """A way stays hidden: it brings something better than what its last cell holds in the stand."""

    def __init__(self, tables, web, state, cells, ties):
        self.tables = tables
        self._web = web.clone()
        self._state = copy_of(state)
        self._cells = copy_of(cells)
        self._ties = copy_of(ties)

    def web(self):
        return self._web.clone()

    def state(self):
        return copy_of(self._state)

    def cells(self):
        return copy_of(self._cells)

    def ties(self):
        return copy_of(self._ties)

    def told(self):
        return "hidden"

    def holds(self):
        return way_is_hidden(self.tables, self._web, self._state, self._cells, self._ties)

    def __bool__(self):
        return False

    def __repr__(self):
        return f"Certificate({self.told()})"
