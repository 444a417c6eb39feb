"""Witnesses: networks that show that a tie more harms, that liars sway a kind, or that a way stays hidden."""

from bestheard.certificates import Harmed, Hidden, Swayed
from bestheard.deciding import settled_places, settled_state
from bestheard.networks import Network
from bestheard.ways import add_row, trail_to
from bestheard.weaving import Bearers, left_state, right_state, woven


def harmed_by(tables, side, both, start):
    """Return a Harmed for the first cell of the network woven from a pair that stays worse with more ties."""
    bearers = Bearers(side, side, both)
    web, nodes = woven(start, lambda node: bearers.of_node(node))
    # The ties that the network of the right side does not have: they would offer something better there.
    extras = [tie for tie in web.ties() if _leads_ahead(side, nodes, tie)]
    spot = web.cells()[0]
    few, many = 0, len(extras)
    # With few of the extra ties the cell holds something better than with many of them.
    while many - few > 1:
        middle = (few + many) // 2
        if _place_with(tables, web, extras, middle, spot) > _place_with(tables, web, extras, few, spot):
            many = middle
        else:
            few = middle
    more, less = _with_extras(web, extras, many), _with_extras(web, extras, few)
    return Harmed(tables, more, extras[few], settled_state(tables, more), settled_state(tables, less), spot)


def _leads_ahead(side, nodes, tie):
    name, source, target = tie
    row = side.rows[(name, nodes[source][0], nodes[target][0])]
    return row[nodes[source][2]] < nodes[target][2]


def _with_extras(web, extras, many):
    """Return the network with only so many of its extra ties."""
    network = web.clone()
    for tie, source, target in extras[many:]:
        network.cut(tie, source, target)
    return network


def _place_with(tables, web, extras, many, spot):
    return settled_places(tables, _with_extras(web, extras, many))[spot]


def swayed_by(tables, side, lies, limits, start):
    """Return a Swayed for the first cell of the network woven from an uneven pair that stays possible."""
    bearers = Bearers(side, side, (limits, limits))
    lied = {(target, place): (tie, source, held) for (tie, source, target), row in side.rows.items() if tie in lies
            for held, place in enumerate(row)}
    web, nodes = woven(start, lambda node: _bearers_or_liars(side, bearers, lied, node))
    liars = [cell for cell, node in nodes.items() if _is_liar(node)]
    first, second = left_state(tables, web, nodes), right_state(tables, web, nodes)
    return Swayed(tables, start[0], lies, web, liars, first, second, web.cells()[0])


def _is_liar(node):
    # The node of a liar has a word behind its places.
    return len(node) > 3


def _bearers_or_liars(side, bearers, lied, node):
    """Return the list of the pairs (tie, node) that bear both places of a node, by lies where these can."""
    if _is_liar(node):
        return []
    kind, left, right = node
    birth = side.births[kind]
    found = []
    # On the side where a liar is not needed it holds nothing, and so offers nothing.
    if left != birth and (kind, left) in lied:
        tie, source, held = lied[(kind, left)]
        found.append((tie, (source, held, side.last, "liar")))
    else:
        found.extend(bearers.of_left(kind, left))
    if right != birth and (kind, right) in lied:
        tie, source, held = lied[(kind, right)]
        found.append((tie, (source, side.last, held, "liar")))
    else:
        found.extend(bearers.of_right(kind, right))
    return found


def hidden_by(tables, ends, trail):
    """Return a Hidden for the way along a trail of catches; a row of its own lets each cell hold what it does."""
    web = Network()
    cells = [add_row(web, trail_to(ends, (catch[0], catch[2]))) for _, catch in trail]
    names = [tie for tie, _ in trail[1:]]
    ties = list(zip(names, cells, cells[1:]))
    for tie, source, target in ties:
        web.add_tie(tie, source, target)
    return Hidden(tables, web, settled_state(tables, web), cells, ties)
