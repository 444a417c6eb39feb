"""Conditions: when certificates hold. Tables and networks are what they are; all else may be any values."""

from bestheard.checks import (are_alike, are_by_kind, are_positions, are_ties, held_places, is_list, is_pair, is_place,
                              rounds_hold, stand_places)
from bestheard.limits import next_limits, uneven_pairs, uneven_pairs_of
from bestheard.pairings import apart_pairs, differ, next_both, next_with_more, worse_pairs
from bestheard.places import places_after
from bestheard.sides import Side


def limits_settle(tables, rounds):
    """Tell whether these are rounds of limits that leave no uneven pair possible."""
    return _limits_follow(tables, (), rounds) and len(uneven_pairs(tables, rounds[-1])) == 0


def limits_keep_firm(tables, kind, lies, rounds):
    """Tell whether these are rounds of limits that leave no uneven pair of the kind possible, whatever liars do."""
    if kind not in tables.kinds() or not are_ties(tables, lies) or not _limits_follow(tables, lies, rounds):
        return False
    return len(uneven_pairs_of(tables, kind, rounds[-1])) == 0


def _limits_follow(tables, lies, rounds):
    if not is_list(rounds):
        return False
    side = Side(tables)
    return rounds_hold(tables, [(limits,) for limits in rounds], lambda before: (next_limits(side, lies, before[0]),))


def limits_agree(tables, others, seen, rounds):
    """Tell whether these are rounds of both limits that leave nothing possible that differs, as seen."""
    if not are_alike(tables, others) or not are_positions(tables, seen) or not _are_pairs(rounds):
        return False
    one, other = Side(tables), Side(others)
    if not rounds_hold(tables, rounds, lambda both: next_both(one, other, both)):
        return False
    return len(apart_pairs(tables, others, seen, rounds[-1])) == 0


def limits_do_no_harm(tables, rounds):
    """Tell whether these are rounds of both limits that leave nothing possible that is worse with more ties."""
    if not _are_pairs(rounds):
        return False
    side = Side(tables)
    return rounds_hold(tables, rounds, lambda both: next_with_more(side, both)) and len(worse_pairs(rounds[-1])) == 0


def _are_pairs(rounds):
    return is_list(rounds) and all([is_pair(both) for both in rounds])


def stands_differ(tables, web, first, second):
    """Tell whether two states are stands that differ at a cell."""
    one, two = stand_places(tables, web, first), stand_places(tables, web, second)
    return one is not None and two is not None and one != two


def books_part(tables, others, seen, web, states, spot):
    """Tell whether two states are stands, each by tables of its own, that differ at a cell, as seen."""
    first, second = states
    if not are_positions(tables, seen) or not are_positions(others, seen) or spot not in web:
        return False
    if stand_places(tables, web, first) is None or stand_places(others, web, second) is None:
        return False
    return differ(first[spot], second[spot], seen)


def tie_harms(tables, web, extra, states, spot):
    """Tell whether a cell holds worse in a stand than in one of the network without this tie."""
    if extra not in web.ties() or spot not in web:
        return False
    less = web.clone()
    less.cut(*extra)
    one, two = stand_places(tables, web, states[0]), stand_places(tables, less, states[1])
    return one is not None and two is not None and one[spot] > two[spot]


def liars_sway(tables, kind, lies, web, liars, states, spot):
    """Tell whether a cell of the kind differs in two states in which all cells but the liars stay."""
    one, two = held_places(tables, web, states[0]), held_places(tables, web, states[1])
    if one is None or two is None or not _are_liars(tables, lies, web, liars):
        return False
    if spot not in web or spot in liars or web[spot] != kind or one[spot] == two[spot]:
        return False
    return _others_stay(tables, web, liars, one) and _others_stay(tables, web, liars, two)


def _are_liars(tables, lies, web, liars):
    if not are_ties(tables, lies) or not is_list(liars) or not all([cell in web for cell in liars]):
        return False
    return all([tie in lies for tie, source, _ in web.ties() if source in liars])


def _others_stay(tables, web, liars, places):
    after = places_after(tables, web, places)
    return all([places[cell] == after[cell] for cell in web.cells() if cell not in liars])


def ways_stay_open(tables, standing, pairs):
    """Tell whether all that can stand, and all that ways can bring beside it, is listed, and nothing is hidden."""
    if not are_by_kind(tables, standing) or not are_by_kind(tables, pairs):
        return False
    if not all([is_place(tables, place) for places in standing.values() for place in places]):
        return False
    if not all([_is_pair_of_places(tables, pair) and pair[0] >= pair[1] for row in pairs.values() for pair in row]):
        return False
    side = Side(tables)
    found = {kind: {pair: True for pair in row} for kind, row in pairs.items()}
    return _all_standing(side, standing) and _all_brought(side, standing, found)


def _is_pair_of_places(tables, value):
    return is_pair(value) and is_place(tables, value[0]) and is_place(tables, value[1])


def _all_standing(side, standing):
    if not all([birth in standing[kind] for kind, birth in side.births.items()]):
        return False
    return all([min(row[place], side.births[target]) in standing[target]
                for (_, source, target), row in side.rows.items() for place in standing[source]])


def _all_brought(side, standing, found):
    if not all([(birth, place) in found[kind] for kind, birth in side.births.items() for place in standing[kind]]):
        return False
    return all([(row[way], beside) in found[target]
                for (_, source, target), row in side.rows.items() for way, place in found[source]
                if row[way] != side.last for beside in standing[target] if beside <= row[place]])


def way_is_hidden(tables, web, state, cells, ties):
    """Tell whether a way in a network brings something better than what its last cell holds in a stand."""
    places = stand_places(tables, web, state)
    if places is None or not is_list(cells) or not is_list(ties) or len(cells) != len(ties) + 1:
        return False
    if not all([cell in web for cell in cells]) or not all([tie in web.ties() for tie in ties]):
        return False
    if not all([tie[1:] == (one, other) for tie, one, other in zip(ties, cells, cells[1:])]):
        return False
    return _place_brought(tables, web, cells[0], ties) < places[cells[-1]]


def _place_brought(tables, web, start, ties):
    place = tables.birth(web[start])
    for tie, source, target in ties:
        place = tables.lead(tie, web[source], web[target], place)
    return place
