"""Tables: what a rulebook, or a mixture of some, comes to if each holding is told by its place in an order."""

from bestheard.errors import BooksDiffer, InvalidCount, InvalidHolding, UnknownKind, UnknownTie
from bestheard.words import is_number

MOST_BOOKS = 3


def tables_of(book):
    """Return the tables of a rulebook."""
    return _tables_of_kinds({kind: (book, kind) for kind in book.kind_names()}, book.tie_names())


def mixture(*books):
    """Return the tables of the mixture of 1 to 3 rulebooks."""
    if not is_number(len(books), 1, MOST_BOOKS) or not all([are_books_alike(books[0], book) for book in books]):
        raise BooksDiffer()
    members = {}
    for number, book in enumerate(books):
        for kind in book.kind_names():
            members[f"{kind}.{number}"] = (book, kind)
    return _tables_of_kinds(members, books[0].tie_names())


def are_books_alike(one, other):
    """Tell whether two rulebooks have equal fields, and the same names of ties and of kinds in the same order."""
    return (one.fields() == other.fields() and one.tie_names() == other.tie_names()
            and one.kind_names() == other.kind_names())


def _tables_of_kinds(members, ties):
    """Return the tables whose kinds are these: each a rulebook and the name of the kind in it."""
    orders = {name: book.order(kind) for name, (book, kind) in members.items()}
    births = {name: orders[name].index(book.birth(kind)) for name, (book, kind) in members.items()}
    leads = {}
    for tie in ties:
        for target, (book, kind) in members.items():
            # Only the target's rulebook counts, and what is offered does not depend on the source's kind.
            places = {holding: orders[target].index(book.offer(tie, kind, holding)) for holding in orders[target]}
            for source in members:
                leads[(tie, source, target)] = [places[holding] for holding in orders[source]]
    return Tables(ties, orders, births, leads)


class Tables:
    """The orders and births of kinds of cells, and where ties lead the places in them; tables never change.

    They are made by tables_of and mixture only.
    """

    def __init__(self, ties, orders, births, leads):
        self._ties = list(ties)
        self._orders = {kind: list(order) for kind, order in orders.items()}
        self._births = {kind: place for kind, place in births.items()}
        self._leads = {way: list(places) for way, places in leads.items()}
        self._size = max([len(order) for order in orders.values()])

    @property
    def size(self):
        """The number of holdings."""
        return self._size

    def kinds(self):
        """Return the list of the names of the kinds."""
        return list(self._orders)

    def ties(self):
        """Return the list of the names of the ties."""
        return list(self._ties)

    def order(self, kind):
        """Return the list of all holdings, the best one for this kind first."""
        self._check_kind(kind)
        return list(self._orders[kind])

    def place(self, kind, holding):
        """Return the place of a holding in the order of the kind."""
        self._check_kind(kind)
        if holding not in self._orders[kind]:
            raise InvalidHolding(holding)
        return self._orders[kind].index(holding)

    def birth(self, kind):
        """Return the place of the birth of the kind."""
        self._check_kind(kind)
        return self._births[kind]

    def lead(self, tie, source, target, place):
        """Return the place of the kind target to which the tie leads this place of the kind source."""
        if tie not in self._ties:
            raise UnknownTie(tie)
        self._check_kind(source)
        self._check_kind(target)
        if not is_number(place, 0, self._size - 1):
            raise InvalidCount(place)
        return self._leads[(tie, source, target)][place]

    def __eq__(self, other):
        if not isinstance(other, Tables):
            return False
        return (self.kinds() == other.kinds() and self._ties == other._ties and self._orders == other._orders
                and self._births == other._births and self._leads == other._leads)

    def __repr__(self):
        return f"Tables({len(self._orders)} kinds, {len(self._ties)} ties, {self._size} places)"

    def _check_kind(self, kind):
        if not isinstance(kind, str) or kind not in self._orders:
            raise UnknownKind(kind)
