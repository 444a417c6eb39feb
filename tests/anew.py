"""What points 11 to 22 of the document say, written down word for word, apart from the package and slowly."""

import itertools


def pairs_anew(tables, left, right):
    """Return the list of (kind, p, q) with q at most the left limit of p, and p at most the right limit of q."""
    places = range(tables.size)
    return [(kind, p, q) for kind in tables.kinds() for p in places for q in places
            if q <= left[kind][p] and p <= right[kind][q]]


def all_none(tables):
    return {kind: [tables.size - 1] * tables.size for kind in tables.kinds()}


def side_anew(one, other, pairs):
    """Return the next limits of the places of the one, if these are the possible pairs, by point 18."""
    found = {}
    for kind in one.kinds():
        birth, most = one.birth(kind), other.birth(kind)
        found[kind] = []
        for place in range(one.size):
            led = [other.lead(tie, source, kind, q) for tie in one.ties() for source, p, q in pairs
                   if one.lead(tie, source, kind, p) == place]
            limit = min(max(led), most) if led else -1
            found[kind].append(-1 if place > birth else most if place == birth else limit)
    return found


def turned(pairs):
    return [(kind, q, p) for kind, p, q in pairs]


def next_anew(tables, limits, lies=()):
    """Return the next limits by point 14, or by point 20 if there are lies."""
    found = side_anew(tables, tables, pairs_anew(tables, limits, limits))
    for kind in tables.kinds():
        for place in range(tables.birth(kind)):
            if any(tables.lead(tie, source, kind, held) == place
                   for tie in lies for source in tables.kinds() for held in range(tables.size)):
                found[kind][place] = tables.birth(kind)
    return found


def next_both_anew(one, other, both):
    """Return the next pair of limits by point 18."""
    pairs = pairs_anew(one, *both)
    return side_anew(one, other, pairs), side_anew(other, one, turned(pairs))


def next_with_more_anew(tables, both):
    """Return the next pair of limits by point 19."""
    pairs = pairs_anew(tables, *both)
    left, right = side_anew(tables, tables, pairs), side_anew(tables, tables, turned(pairs))
    for kind in tables.kinds():
        for place in range(tables.birth(kind)):
            if any(tables.lead(tie, source, kind, p) == place for tie in tables.ties() for source, p, _ in pairs):
                left[kind][place] = tables.birth(kind)
    return left, right


def rounds_anew(first, next_of):
    """Return the list of the first limits and the next ones, up to the first that stay."""
    rounds = [first]
    while next_of(rounds[-1]) != rounds[-1]:
        rounds.append(next_of(rounds[-1]))
    return rounds


def uneven_anew(tables, limits):
    return [pair for pair in pairs_anew(tables, limits, limits) if pair[1] != pair[2]]


def stands_anew(tables, network, fixed=None):
    """Return all states of a small network in which each cell that is not fixed finds what it holds by looking."""
    fixed = fixed or {}
    cells = network.cells()
    choices = [[fixed[cell]] if cell in fixed else tables.order(network[cell]) for cell in cells]
    found = []
    for holdings in itertools.product(*choices):
        state = dict(zip(cells, holdings))
        if all(cell in fixed or state[cell] == looked_anew(tables, network, cell, state) for cell in cells):
            found.append(state)
    return found


def looked_anew(tables, network, cell, state):
    """Return what a cell finds by looking at a state."""
    kind = network[cell]
    offers = [tables.lead(tie, network[source], kind, tables.place(network[source], state[source]))
              for tie, source, target in network.ties() if target == cell]
    return tables.order(kind)[min([tables.birth(kind), *offers])]


class RunAnew:
    """A run as points 11 and 12 tell it; its looks must be right."""

    def __init__(self, tables, network, past):
        self.tables, self.network, self.states = tables, network, [dict(state) for state in past]
        self.begins = [len(past) - 1]
        # For each step the dict from the cells that look to the dicts from ties to the moments that they see.
        self.steps = []

    def ties(self, cell):
        return [tie for tie in self.network.ties() if tie[2] == cell]

    def last_seen(self, tie):
        return max([0, *[seen[cell][tie] for seen in self.steps for cell in seen if tie in seen[cell]]])

    def is_right(self, cell, look):
        moments = [len(self.states) - ago for ago in look]
        return all(0 <= moment < len(self.states) and moment >= self.last_seen(tie)
                   for tie, moment in zip(self.ties(cell), moments))

    def step(self, looks):
        seen = {cell: {tie: len(self.states) - ago for tie, ago in zip(self.ties(cell), look)}
                for cell, look in looks.items()}
        state = dict(self.states[-1])
        for cell, moments in seen.items():
            kind = self.network[cell]
            places = [self.tables.birth(kind)]
            for (tie, source, _), moment in ((tie, moments[tie]) for tie in moments):
                held = self.tables.place(self.network[source], self.states[moment][source])
                places.append(self.tables.lead(tie, self.network[source], kind, held))
            state[cell] = self.tables.order(kind)[min(places)]
        self.states.append(state)
        self.steps.append(seen)
        begin = self.begins[-1]
        # The step to moment m is the one at position m - 1, less the moments of the past ahead of the first present.
        in_phase = self.steps[begin - self.begins[0]:]
        if all(any(cell in seen and all(moment >= begin for moment in seen[cell].values()) for seen in in_phase)
               for cell in self.network.cells()):
            self.begins.append(len(self.states) - 1)

    def phases(self):
        return len(self.begins) - 1
