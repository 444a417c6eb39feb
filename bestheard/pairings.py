"""Pairings: limits of two sides that differ, by their rulebooks or by some ties; and holdings that differ, as seen.

Both limits are a pair (left limits, right limits): how far the right side can be behind each place of the left one,
and the other way round.
"""

from bestheard.limits import first_limits
from bestheard.sides import capped, greatest_leads, pairs_of, partners_of


def first_both(tables):
    """Return both limits ahead of all phases: everything is possible."""
    return first_limits(tables), first_limits(tables)


def next_both(one, other, both):
    """Return both limits one round later, if the sides are those of two rulebooks."""
    left, right = both
    return (capped(one, other, greatest_leads(one, other, partners_of(left, right))),
            capped(other, one, greatest_leads(other, one, partners_of(right, left))))


def next_with_more(side, both):
    """Return both limits one round later, if the left network has some more ties than the right one."""
    left, right = both
    greatest = greatest_leads(side, side, partners_of(left, right))
    # What comes along a tie that the right network does not have may be missed there altogether.
    missed = {kind: [side.last if behind >= 0 else -1 for behind in row] for kind, row in greatest.items()}
    return (capped(side, side, missed),
            capped(side, side, greatest_leads(side, side, partners_of(right, left))))


def apart_pairs(tables, others, seen, both):
    """Return the list of the pairs that are possible by both limits and whose holdings differ, as seen."""
    one = {kind: tables.order(kind) for kind in tables.kinds()}
    two = {kind: others.order(kind) for kind in others.kinds()}
    return [(kind, place, other) for kind, place, other in pairs_of(both[0], both[1])
            if differ(one[kind][place], two[kind][other], seen)]


def worse_pairs(both):
    """Return the list of the pairs that are possible by both limits and worse on the left side."""
    return [pair for pair in pairs_of(both[0], both[1]) if pair[1] > pair[2]]


def differ(one, other, seen):
    """Tell whether two holdings differ, as seen by the fields at these positions, or by all fields for None."""
    if one is None or other is None or seen is None:
        return one != other
    return any([one[position] != other[position] for position in seen])
