"""Weaving: networks with a cell for each of some possible pairs, in which ties bear both places of each pair.

A node stands for a cell: a tuple with its kind, its place on the left side and its place on the right side in front.
"""

from bestheard.networks import Network
from bestheard.places import state_of
from bestheard.sides import partners_of
from bestheard.words import cell_name


class Bearers:
    """For each place of both sides a tie that bears it, and the node from which this tie leads."""

    def __init__(self, one, other, both):
        left, right = both
        self._one = one
        self._other = other
        self._left = _bearers(one, other, partners_of(left, right))
        found = _bearers(other, one, partners_of(right, left))
        # The right side sees each pair the other way round.
        self._right = {at: (tie, (node[0], node[2], node[1])) for at, (tie, node) in found.items()}

    def of_left(self, kind, place):
        """Return the list of the pair (tie, node) that bears a place on the left side, empty for a birth."""
        return [self._left[(kind, place)]] if place != self._one.births[kind] else []

    def of_right(self, kind, place):
        """Return the list of the pair (tie, node) that bears a place on the right side, empty for a birth."""
        return [self._right[(kind, place)]] if place != self._other.births[kind] else []

    def of_node(self, node):
        """Return the list of the one or two pairs (tie, node) that bear both places of a node, none for births."""
        kind, left, right = node
        return self.of_left(kind, left) + self.of_right(kind, right)


def _bearers(near, far, partners):
    """Return for each place to which ties lead the near side the tie and node that lead the far side most behind."""
    found = {}
    for (tie, source, target), row in near.rows.items():
        far_row = far.rows[(tie, source, target)]
        for place, others in partners[source]:
            behind = max([far_row[other] for other in others])
            at = (target, row[place])
            if at not in found or behind > found[at][0]:
                most = [other for other in others if far_row[other] == behind]
                found[at] = (behind, tie, (source, place, most[0]))
    return {at: (tie, node) for at, (_, tie, node) in found.items()}


def woven(start, bearers_of):
    """Return a network and the dict from its cells to their nodes.

    There are a cell for the start, which is the first one, and for each node from which ties lead to others, and the
    ties that bearers_of tells for each of them, as a list of pairs (tie, node).
    """
    names = {start: cell_name(0)}
    nodes = [start]
    ties = {}
    at = 0
    while at < len(nodes):
        target = nodes[at]
        bearers = bearers_of(target)
        for tie, source in bearers:
            if source not in names:
                names[source] = cell_name(len(nodes))
                nodes.append(source)
            ties[(tie, names[source], names[target])] = True
        at += 1
    network = Network(cells=[(names[node], node[0]) for node in nodes], ties=list(ties))
    return network, {names[node]: node for node in nodes}


def left_state(tables, network, nodes):
    """Return the state in which the cells hold the left places of their nodes."""
    return state_of(tables, network, {cell: node[1] for cell, node in nodes.items()})


def right_state(tables, network, nodes):
    """Return the state in which the cells hold the right places of their nodes."""
    return state_of(tables, network, {cell: node[2] for cell, node in nodes.items()})
