"""Rulebooks: what ties make of values, what cells take, how they order holdings and with what they are born."""

from bestheard.cases import applied
from bestheard.drafts import Draft, rulebook_text
from bestheard.errors import (InvalidField, InvalidHolding, InvalidKind, InvalidRulebook, InvalidTie, UnknownKind,
                              UnknownTie)
from bestheard.shapes import field_fits, is_holding, kind_fits, names_of, tie_fits, values_of


class Rulebook:
    """Fields, ties and kinds of cells; a rulebook never changes."""

    # A class value is a literal; shapes.py has the same numbers as MOST_VALUES, MOST_TIES and MOST_KINDS.
    MAX_VALUES = 24
    MAX_TIES = 4
    MAX_KINDS = 3

    def __init__(self, fields, *, ties, kinds):
        wrong = _first_wrong(fields, field_fits)
        if wrong is not None:
            raise InvalidField(wrong)
        wrong = _first_wrong(ties, lambda before, tie: tie_fits(fields, before, tie))
        if wrong is not None:
            raise InvalidTie(wrong)
        wrong = _first_wrong(kinds, lambda before, kind: kind_fits(fields, before, kind))
        if wrong is not None:
            raise InvalidKind(wrong)
        self._fields = list(fields)
        self._ties = list(ties)
        self._kinds = list(kinds)

    @classmethod
    def read(cls, text):
        """Return the rulebook of a text."""
        if not isinstance(text, str):
            raise InvalidRulebook(0)
        *lines, rest = text.split("\n")
        draft = Draft()
        for number, line in enumerate(lines):
            if not draft.take(line):
                raise InvalidRulebook(number)
        if rest != "" or not draft.is_whole():
            raise InvalidRulebook(len(lines))
        fields, ties, kinds = draft.parts()
        return cls(fields, ties=ties, kinds=kinds)

    @staticmethod
    def is_valid(text):
        """Tell whether any value is the text of a rulebook."""
        try:
            Rulebook.read(text)
        except InvalidRulebook:
            return False
        return True

    def fields(self):
        """Return the list of the fields."""
        return list(self._fields)

    def ties(self):
        """Return the list of the ties, pairs of a name and a program."""
        return list(self._ties)

    def kinds(self):
        """Return the list of the kinds, tuples (name, keys, taking, birth)."""
        return list(self._kinds)

    def tie_names(self):
        """Return the list of the names of the ties."""
        return names_of(self._ties)

    def kind_names(self):
        """Return the list of the names of the kinds."""
        return names_of(self._kinds)

    def all_values(self):
        """Return the list of all values, in the order of the options, the first field first."""
        return values_of(self._fields)

    def text(self):
        """Return the text that read takes."""
        return rulebook_text(self._fields, self._ties, self._kinds)

    def order(self, kind):
        """Return the list of all holdings, the best one for this kind first."""
        _, keys, _, _ = self._kind(kind)
        # Values that no key tells apart stay in the order of all_values: sorted keeps it.
        ordered = sorted(self.all_values(), key=lambda value: _ranks(self._fields, keys, value))
        return [*ordered, None]

    def birth(self, kind):
        """Return the holding with which a cell of this kind is born."""
        _, _, _, birth = self._kind(kind)
        return birth

    def offer(self, tie, kind, holding):
        """Return what is offered along the tie to a cell of the kind if the other end has this holding."""
        if tie not in self.tie_names():
            raise UnknownTie(tie)
        _, _, taking, _ = self._kind(kind)
        self._check_holding(holding)
        program = self._ties[self.tie_names().index(tie)][1]
        made = applied(self._fields, program, holding)
        return made if taking is None else applied(self._fields, taking, made)

    def __call__(self, tie, kind, holding):
        return self.offer(tie, kind, holding)

    def best(self, kind, *offers):
        """Return the best of the birth of the kind and any number of holdings."""
        order = self.order(kind)
        for offer in offers:
            self._check_holding(offer)
        return order[min([order.index(holding) for holding in (self.birth(kind), *offers)])]

    def is_better(self, kind, one, other):
        """Tell whether one holding is better than the other one for this kind."""
        order = self.order(kind)
        self._check_holding(one)
        self._check_holding(other)
        return order.index(one) < order.index(other)

    def __eq__(self, other):
        if not isinstance(other, Rulebook):
            return False
        return self._fields == other._fields and self._ties == other._ties and self._kinds == other._kinds

    def __repr__(self):
        return f"Rulebook({len(self._fields)} fields, {len(self._ties)} ties, {len(self._kinds)} kinds)"

    def _kind(self, name):
        for kind in self._kinds:
            if kind[0] == name:
                return kind
        raise UnknownKind(name)

    def _check_holding(self, holding):
        if not is_holding(self._fields, holding):
            raise InvalidHolding(holding)


def _first_wrong(items, fits):
    """Return the position of the first item that does not fit behind those before it, or None."""
    if not isinstance(items, (list, tuple)) or len(items) == 0:
        return 0
    for position, item in enumerate(items):
        if not fits(items[:position], item):
            return position
    return None


def _ranks(fields, keys, value):
    """Return what the keys make of a value: the better one of two values has the lesser list."""
    return [_rank(fields, field, direction, value) for field, direction in keys]


def _rank(fields, field, direction, value):
    position = names_of(fields).index(field)
    place = fields[position][1].index(value[position])
    return place if direction == "+" else -place
