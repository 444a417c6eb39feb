"""Checks of what certificates are given: any values, as far as they are not tables and networks."""

from bestheard.errors import InvalidState, UnknownKind, UnknownTie
from bestheard.limits import first_limits
from bestheard.places import check_network, places_after, places_of
from bestheard.words import is_integer, is_number


def is_list(value):
    """Tell whether any value may be passed as a list."""
    return isinstance(value, (list, tuple))


def is_pair(value):
    """Tell whether any value is a pair."""
    return isinstance(value, tuple) and len(value) == 2


def are_by_kind(tables, value):
    """Tell whether any value is a dict from all kinds, and from nothing else, to lists."""
    if not isinstance(value, dict) or len(value) != len(tables.kinds()):
        return False
    return all([kind in value and is_list(value[kind]) for kind in tables.kinds()])


def are_limits(tables, value):
    """Tell whether any value is a dict of limits: from the kinds to a number for each of their places."""
    if not are_by_kind(tables, value):
        return False
    return all([len(row) == tables.size and all([is_integer(limit) for limit in row]) for row in value.values()])


def is_place(tables, value):
    """Tell whether any value is a place."""
    return is_number(value, 0, tables.size - 1)


def are_ties(tables, value):
    """Tell whether any value is a list of names of ties of the tables."""
    return is_list(value) and all([tie in tables.ties() for tie in value])


def are_positions(tables, value):
    """Tell whether any value is None or a list of positions of fields."""
    if value is None:
        return True
    # The first holding of an order is a value: None is last.
    fields = len(tables.order(tables.kinds()[0])[0])
    return is_list(value) and all([is_number(position, 0, fields - 1) for position in value])


def are_alike(tables, others):
    """Tell whether two tables have the same holdings, and the same names of ties and kinds in the same order."""
    if tables.kinds() != others.kinds() or tables.ties() != others.ties() or tables.size != others.size:
        return False
    kind = tables.kinds()[0]
    return all([holding in others.order(kind) for holding in tables.order(kind)])


def rounds_hold(tables, rounds, next_of):
    """Tell whether limits begin with the place of None everywhere, and follow one another.

    Each round is a tuple of limits, or of any values in their place, and next_of makes such a tuple of the one before.
    """
    if len(rounds) == 0 or not all([are_limits(tables, limits) for limits in _all_of(rounds)]):
        return False
    if not all([_are_same(limits, first_limits(tables)) for limits in rounds[0]]):
        return False
    return all([_reach(after, next_of(before)) for before, after in zip(rounds, rounds[1:])])


def _all_of(rounds):
    return [limits for found in rounds for limits in found]


def _are_same(limits, others):
    return all([list(row) == others[kind] for kind, row in limits.items()])


def _reach(rounds, least):
    """Tell whether no limit is lower than the least one at its place."""
    return all([limit >= bound for limits, bounds in zip(rounds, least) for kind, row in limits.items()
                for limit, bound in zip(row, bounds[kind])])


def held_places(tables, web, state):
    """Return the places that the cells hold, or None if this is no state of a network of the tables."""
    if not isinstance(state, dict):
        return None
    try:
        check_network(tables, web)
        return places_of(tables, web, state)
    except (UnknownKind, UnknownTie, InvalidState):
        return None


def stand_places(tables, web, state):
    """Return the places that the cells hold, or None if this is no stand of a network of the tables."""
    places = held_places(tables, web, state)
    if places is None or places != places_after(tables, web, places):
        return None
    return places
