"""Sides: what two sides of networks go by, and how far the one can lead behind the other.

Limits are a dict from the names of the kinds to the lists of the limits of their places. The near limits tell of
each place of the near side how far the far side can be behind it, and the far limits the same the other way round.
"""


class Side:
    """The births of tables, and where their ties lead all places; a side never changes."""

    def __init__(self, tables):
        kinds = tables.kinds()
        # The place of None.
        self.last = tables.size - 1
        self.births = {kind: tables.birth(kind) for kind in kinds}
        self.rows = {(tie, source, target): [tables.lead(tie, source, target, place) for place in range(tables.size)]
                     for tie in tables.ties() for source in kinds for target in kinds}
        # The same, for each kind of sources.
        self.ways = {kind: [(tie, target, row) for (tie, source, target), row in self.rows.items() if source == kind]
                     for kind in kinds}


def partners_of(near, far):
    """Return a dict from the kinds to lists of pairs: a near place, and the list of the far ones possible beside it."""
    return {kind: _partners_of_kind(limits, far[kind]) for kind, limits in near.items()}


def _partners_of_kind(near, far):
    found = []
    for place, limit in enumerate(near):
        partners = [other for other, least in enumerate(far) if other <= limit and place <= least]
        if len(partners) > 0:
            found.append((place, partners))
    return found


def pairs_of(near, far):
    """Return the list of the tuples (kind, place, other) of all pairs that are possible, kind by kind, ascending."""
    return [(kind, place, other) for kind, rows in partners_of(near, far).items()
            for place, partners in rows for other in partners]


def greatest_leads(near, far, partners):
    """Return for each place how far the far side can be led if a tie leads the near side there, or -1."""
    found = {kind: [-1] * (near.last + 1) for kind in near.births}
    for way, row in near.rows.items():
        _, source, target = way
        far_row, greatest = far.rows[way], found[target]
        for place, others in partners[source]:
            behind = max([far_row[other] for other in others])
            greatest[row[place]] = max(greatest[row[place]], behind)
    return found


def capped(near, far, greatest):
    """Return the limits of the near side: nothing is worse than a birth, neither here nor there."""
    return {kind: [_limit(place, birth, far.births[kind], behind) for place, behind in enumerate(greatest[kind])]
            for kind, birth in near.births.items()}


def _limit(place, birth, far_birth, behind):
    if place > birth:
        return -1
    if place == birth:
        return far_birth
    return min(behind, far_birth)
