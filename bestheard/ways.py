"""Ways and rows: what can stand at the ends of rows, and what ways can bring beside it.

An end is a pair (kind, place): what stands at the last cell of a row. A catch is a triple (kind, way, place): what a
way brings to its last cell, and what stands there. Steps are a dict from each of them to the pair of a tie and of what
the tie leads from, or to None where there is no tie.
"""

from bestheard.words import cell_name


def steps_to_ends(side):
    """Return the steps to all ends of rows, those with the fewest cells."""
    steps = {(kind, birth): None for kind, birth in side.births.items()}
    ends = list(steps)
    at = 0
    while at < len(ends):
        kind, place = ends[at]
        for tie, target, row in side.ways[kind]:
            end = (target, min(row[place], side.births[target]))
            if end not in steps:
                steps[end] = (tie, (kind, place))
                ends.append(end)
        at += 1
    return steps


def places_that_stand(side, steps):
    """Return the dict from the kinds to the ascending lists of the places that are ends."""
    return {kind: [place for place in range(side.last + 1) if (kind, place) in steps] for kind in side.births}


def steps_to_catches(side, places):
    """Return the steps to all catches beside these places, those with the fewest cells."""
    steps = {(kind, birth, place): None for kind, birth in side.births.items() for place in places[kind]}
    catches = list(steps)
    at = 0
    while at < len(catches):
        kind, way, place = catches[at]
        for tie, target, row in side.ways[kind]:
            if row[way] != side.last:
                # What stands at the target hears what stands at the source, so it is not worse than that offer.
                further = [(target, row[way], other) for other in places[target] if other <= row[place]]
                new = [found for found in further if found not in steps]
                for catch in new:
                    steps[catch] = (tie, (kind, way, place))
                    catches.append(catch)
        at += 1
    return steps


def trail_to(steps, last):
    """Return the list of the pairs (tie, end or catch) up to the last one; no tie leads to the first one."""
    trail = []
    end = last
    while steps[end] is not None:
        tie, before = steps[end]
        trail.append((tie, end))
        end = before
    trail.append((None, end))
    return trail[::-1]


def add_row(network, trail):
    """Put the cells of the row to an end into a network, with new names, and return the name of the last one."""
    last = None
    for tie, end in trail:
        name = cell_name(len(network))
        network.add_cell(name, end[0])
        if tie is not None:
            network.add_tie(tie, last, name)
        last = name
    return last
