"""Questions about networks of every shape: what can stand, agree, do harm, sway others and stay hidden."""

from bestheard.certificates import Agree, Firm, Harmless, Open, Part
from bestheard.deciding import settles
from bestheard.errors import BooksDiffer, UnknownField, UnknownKind, UnknownTie, Unsettled
from bestheard.limits import first_limits, next_limits, rounds_until, uneven_pairs_of
from bestheard.networks import Network
from bestheard.pairings import apart_pairs, first_both, next_both, next_with_more, worse_pairs
from bestheard.shapes import names_of
from bestheard.sides import Side
from bestheard.tables import are_books_alike, tables_of
from bestheard.ways import add_row, places_that_stand, steps_to_catches, steps_to_ends, trail_to
from bestheard.weaving import Bearers, left_state, right_state, woven
from bestheard.witnesses import harmed_by, hidden_by, swayed_by


def standing(tables, kind):
    """Return the list of the holdings that can stand at a kind, the best first."""
    _check_kind(tables, kind)
    _check_settled(tables)
    side = Side(tables)
    order = tables.order(kind)
    return [order[place] for place in places_that_stand(side, steps_to_ends(side))[kind]]


def row_to(tables, kind, holding):
    """Return a shortest row at whose end the holding stands, as a pair (network, cell), or None if it cannot stand."""
    end = (kind, tables.place(kind, holding))
    _check_settled(tables)
    steps = steps_to_ends(Side(tables))
    if end not in steps:
        return None
    network = Network()
    cell = add_row(network, trail_to(steps, end))
    return network, cell


def compare(one, other, *, seen=None):
    """Return an Agree or a Part that holds for two rulebooks, seen by the fields with these names, or by all."""
    if not are_books_alike(one, other):
        raise BooksDiffer()
    positions = None if seen is None else _positions(one, seen)
    tables, others = tables_of(one), tables_of(other)
    _check_settled(tables)
    _check_settled(others)
    left, right = Side(tables), Side(others)
    rounds = rounds_until(first_both(tables), lambda both: next_both(left, right, both),
                          lambda both: apart_pairs(tables, others, positions, both))
    apart = apart_pairs(tables, others, positions, rounds[-1])
    if len(apart) == 0:
        return Agree(tables, others, positions, rounds)
    bearers = Bearers(left, right, rounds[-1])
    web, nodes = woven(apart[0], lambda node: bearers.of_node(node))
    first, second = left_state(tables, web, nodes), right_state(others, web, nodes)
    return Part(tables, others, positions, web, first, second, web.cells()[0])


def harm(tables):
    """Return a Harmless or a Harmed that holds: whether a tie more can do harm."""
    _check_settled(tables)
    side = Side(tables)
    rounds = rounds_until(first_both(tables), lambda both: next_with_more(side, both), worse_pairs)
    worse = worse_pairs(rounds[-1])
    if len(worse) == 0:
        return Harmless(tables, rounds)
    return harmed_by(tables, side, rounds[-1], worse[0])


def sway(tables, kind, *lies):
    """Return a Firm or a Swayed that holds: whether liars sway a kind by ties with these names."""
    _check_kind(tables, kind)
    for tie in lies:
        if tie not in tables.ties():
            raise UnknownTie(tie)
    side = Side(tables)
    rounds = rounds_until(first_limits(tables), lambda limits: next_limits(side, lies, limits),
                          lambda limits: uneven_pairs_of(tables, kind, limits))
    uneven = uneven_pairs_of(tables, kind, rounds[-1])
    if len(uneven) == 0:
        return Firm(tables, kind, list(lies), rounds)
    return swayed_by(tables, side, list(lies), rounds[-1], uneven[0])


def hidden_way(tables):
    """Return an Open or a Hidden that holds: whether a better way can stay hidden."""
    _check_settled(tables)
    side = Side(tables)
    ends = steps_to_ends(side)
    places = places_that_stand(side, ends)
    catches = steps_to_catches(side, places)
    hidden = [catch for catch in catches if catch[1] < catch[2]]
    if len(hidden) > 0:
        return hidden_by(tables, ends, trail_to(catches, hidden[0]))
    pairs = {kind: [(way, place) for other, way, place in catches if other == kind] for kind in tables.kinds()}
    return Open(tables, places, pairs)


def _check_kind(tables, kind):
    if kind not in tables.kinds():
        raise UnknownKind(kind)


def _check_settled(tables):
    if not settles(tables):
        raise Unsettled()


def _positions(book, names):
    """Return the list of the positions of the fields with these names."""
    known = names_of(book.fields())
    for name in names:
        if name not in known:
            raise UnknownField(name)
    return [known.index(name) for name in names]
