"""Networks and states seen through tables: do they fit, and which places do the cells hold."""

from bestheard.errors import InvalidHolding, InvalidState, UnknownKind, UnknownTie


def check_network(tables, network):
    """Raise an error unless the tables have all kinds of the cells and all names of the ties."""
    kinds, ties = tables.kinds(), tables.ties()
    for cell in network.cells():
        if network[cell] not in kinds:
            raise UnknownKind(network[cell])
    for tie, _, _ in network.ties():
        if tie not in ties:
            raise UnknownTie(tie)


def places_of(tables, network, state):
    """Return the dict of the places that the cells hold in a state, in the order of the network."""
    places = {}
    for cell in network.cells():
        if cell not in state:
            raise InvalidState(cell)
        try:
            places[cell] = tables.place(network[cell], state[cell])
        except InvalidHolding:
            raise InvalidState(cell) from None
    return places


def state_of(tables, network, places):
    """Return the state in which the cells hold these places."""
    return {cell: tables.order(network[cell])[place] for cell, place in places.items()}


def ties_by_target(network):
    """Return the dict from the cells to the lists of the ties into them, each in the order of the network."""
    found = {cell: [] for cell in network.cells()}
    for tie in network.ties():
        found[tie[2]].append(tie)
    return found


def place_found(tables, network, cell, ties, places):
    """Return the place that a cell finds by looking along the ties into it at the places that all cells hold."""
    kind = network[cell]
    offers = [tables.lead(tie, network[source], kind, places[source]) for tie, source, _ in ties]
    return min([tables.birth(kind), *offers])


def places_after(tables, network, places):
    """Return the dict of the places that the cells find by looking at these places."""
    ties = ties_by_target(network)
    return {cell: place_found(tables, network, cell, ties[cell], places) for cell in network.cells()}
