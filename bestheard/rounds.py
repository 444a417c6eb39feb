"""Rounds: what cells find by looking at a state, and the states that stand."""

from bestheard.errors import InvalidCount, UnknownCell
from bestheard.places import check_network, place_found, places_after, places_of, state_of
from bestheard.words import is_number

MOST_ROUNDS = 300


def look(tables, network, cell, state):
    """Return what a cell holds after looking at a state."""
    check_network(tables, network)
    if cell not in network:
        raise UnknownCell(cell)
    places = places_of(tables, network, state)
    return tables.order(network[cell])[place_found(tables, network, cell, network.ties_into(cell), places)]


def one_round(tables, network, state):
    """Return the state in which each cell holds what it finds by looking at this state."""
    check_network(tables, network)
    places = places_of(tables, network, state)
    return state_of(tables, network, places_after(tables, network, places))


def rounds_on(tables, network, state, many):
    """Return the state after so many rounds."""
    check_network(tables, network)
    places = places_of(tables, network, state)
    if not is_number(many, 0, MOST_ROUNDS):
        raise InvalidCount(many)
    for _ in range(many):
        places = places_after(tables, network, places)
    return state_of(tables, network, places)


def is_stand(tables, network, state):
    """Tell whether a round leaves the state as it is."""
    check_network(tables, network)
    places = places_of(tables, network, state)
    return places == places_after(tables, network, places)


def empty_state(network):
    """Return the state in which all cells hold nothing."""
    return {cell: None for cell in network.cells()}
