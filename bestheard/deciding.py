"""Deciding whether tables settle: whether each run on each network comes to rest in its only stand."""

from bestheard.certificates import Settles, Splits
from bestheard.errors import Unsettled
from bestheard.limits import limit_rounds, uneven_pairs
from bestheard.places import check_network, places_after, state_of
from bestheard.sides import Side
from bestheard.weaving import Bearers, left_state, right_state, woven


def decide(tables):
    """Return a Settles or a Splits that holds."""
    rounds = limit_rounds(tables)
    delay = _delay_by(tables, rounds)
    if delay is None:
        return _split_by(tables, rounds[-1])
    return Settles(tables, rounds[:delay + 1])


def settles(tables):
    """Tell whether the tables settle."""
    return _delay_by(tables, limit_rounds(tables)) is not None


def delay_of(tables):
    """Return the number of phases after which each run is in the only stand."""
    delay = _delay_by(tables, limit_rounds(tables))
    if delay is None:
        raise Unsettled()
    return delay


def late_pair(tables):
    """Return a tuple (network, one, other, cell): the states still differ there after one round less than the delay."""
    rounds = limit_rounds(tables)
    delay = _delay_by(tables, rounds)
    if delay is None:
        raise Unsettled()
    side = Side(tables)
    bearers = [Bearers(side, side, (limits, limits)) for limits in rounds[:delay - 1]]
    kind, one, other = uneven_pairs(tables, rounds[delay - 1])[0]
    network, nodes = woven((kind, one, other, delay - 1), lambda node: _earlier(bearers, node))
    return network, left_state(tables, network, nodes), right_state(tables, network, nodes), network.cells()[0]


def stand_of(tables, network):
    """Return the only stand of a network."""
    check_network(tables, network)
    if not settles(tables):
        raise Unsettled()
    return settled_state(tables, network)


def settled_state(tables, network):
    """Return the only stand of a network that fits the tables, which settle."""
    return state_of(tables, network, settled_places(tables, network))


def settled_places(tables, network):
    """Return the places that the cells hold in the only stand; the tables must settle, or this may never end."""
    places = {cell: tables.birth(network[cell]) for cell in network.cells()}
    after = places_after(tables, network, places)
    while after != places:
        places, after = after, places_after(tables, network, after)
    return places


def _delay_by(tables, rounds):
    """Return the number of the first round that leaves no uneven pair possible, or None if there is none."""
    for number, limits in enumerate(rounds):
        if len(uneven_pairs(tables, limits)) == 0:
            return number
    return None


def _split_by(tables, limits):
    """Return a Splits with a cell for an uneven pair that stays possible, and for the pairs that bear it."""
    side = Side(tables)
    bearers = Bearers(side, side, (limits, limits))
    network, nodes = woven(uneven_pairs(tables, limits)[0], lambda node: bearers.of_node(node))
    return Splits(tables, network, left_state(tables, network, nodes), right_state(tables, network, nodes))


def _earlier(bearers, node):
    """Return the ties into a node of a later round, which come from nodes of the round before."""
    kind, left, right, number = node
    if number == 0:
        return []
    return [(tie, (*source, number - 1)) for tie, source in bearers[number - 1].of_node((kind, left, right))]
