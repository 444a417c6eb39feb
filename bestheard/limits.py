"""Limits: how far two runs on the same network can be apart at one cell."""

from bestheard.sides import Side, capped, greatest_leads, pairs_of, partners_of


def limit_rounds(tables):
    """Return the list of the limits after 0, 1, 2 and more rounds, up to the first that the next round leaves."""
    side = Side(tables)
    rounds = [first_limits(tables)]
    after = next_limits(side, (), rounds[0])
    while after != rounds[-1]:
        rounds.append(after)
        after = next_limits(side, (), after)
    return rounds


def possible_pairs(tables, limits):
    """Return the list of the tuples (kind, p, q) of all pairs that are possible by these limits."""
    ordered = {kind: limits[kind] for kind in tables.kinds()}
    return pairs_of(ordered, ordered)


def first_limits(tables):
    """Return the limits ahead of all phases: everything is possible."""
    return {kind: [tables.size - 1] * tables.size for kind in tables.kinds()}


def next_limits(side, lies, limits):
    """Return the limits one round later, if liars may offer whatever they like along the ties that are lies."""
    greatest = greatest_leads(side, side, partners_of(limits, limits))
    for (tie, _, target), row in side.rows.items():
        if tie in lies:
            for place in row:
                greatest[target][place] = side.last
    return capped(side, side, greatest)


def rounds_until(first, next_of, wrong_of):
    """Return the list of the first limits and the next ones, up to those by which nothing is wrong, or that stay."""
    rounds = [first]
    while len(wrong_of(rounds[-1])) > 0:
        after = next_of(rounds[-1])
        if after == rounds[-1]:
            return rounds
        rounds.append(after)
    return rounds


def uneven_pairs(tables, limits):
    """Return the list of the pairs that are possible by these limits and whose places differ."""
    return [pair for pair in possible_pairs(tables, limits) if pair[1] != pair[2]]


def uneven_pairs_of(tables, kind, limits):
    """Return the list of those uneven pairs that are pairs of this kind."""
    return [pair for pair in uneven_pairs(tables, limits) if pair[0] == kind]
