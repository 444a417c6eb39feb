"""Runs: networks whose cells look from time to time, perhaps at what was held some moments before."""

from bestheard.errors import InvalidCount, InvalidLook, UnknownCell, UnknownMoment
from bestheard.places import check_network, places_of, state_of, ties_by_target
from bestheard.words import is_number


class Run:
    """The states of a network from moment to moment."""

    def __init__(self, tables, network, past):
        check_network(tables, network)
        self._moments = [places_of(tables, network, state) for state in past]
        if len(self._moments) == 0:
            raise InvalidCount(0)
        self._tables = tables
        self._network = network.clone()
        self._ties_into = ties_by_target(network)
        # The moment that was seen along a tie when its target looked last.
        self._last_seen = {}
        self._phases = 0
        self._phase_begins = len(self._moments) - 1
        # The cells that have looked in this phase and saw no moment ahead of its beginning.
        self._done = {}

    @property
    def moment(self):
        """The moment of the present."""
        return len(self._moments) - 1

    @property
    def phases(self):
        """How many phases have ended."""
        return self._phases

    def state_at(self, moment):
        """Return the state of a moment."""
        if not is_number(moment, 0, len(self._moments) - 1):
            raise UnknownMoment(moment)
        return state_of(self._tables, self._network, self._moments[moment])

    def now(self):
        """Return the present state."""
        return self.state_at(self.moment)

    def step(self, looks):
        """Add a moment: the cells among the keys look, each as many moments back along each tie as its list says."""
        for name in looks:
            if name not in self._network:
                raise UnknownCell(name)
        seen = {cell: self._moments_seen(cell, looks[cell]) for cell in self._network.cells() if cell in looks}
        self._add_moment(seen)

    def step_all(self, *, ago=1):
        """Add a moment at which all cells look so many moments back."""
        self.step({cell: [ago for _ in ties] for cell, ties in self._ties_into.items()})

    def clone(self):
        """Return an independent run with the same states, looks and phases."""
        other = Run(self._tables, self._network, [self.now()])
        # A moment never changes once it is there, so both runs may keep it.
        other._moments = list(self._moments)
        other._last_seen = {tie: moment for tie, moment in self._last_seen.items()}
        other._phases = self._phases
        other._phase_begins = self._phase_begins
        other._done = {cell: True for cell in self._done}
        return other

    def __len__(self):
        return len(self._moments)

    def __repr__(self):
        return f"Run({len(self._network)} cells, moment {len(self._moments) - 1})"

    def _moments_seen(self, cell, look):
        """Return the list of the moments that a cell sees along the ties into it, if it may look so."""
        ties = self._ties_into[cell]
        if not isinstance(look, (list, tuple)) or len(look) != len(ties):
            raise InvalidLook(cell)
        if not all([is_number(ago, 1, len(self._moments)) for ago in look]):
            raise InvalidLook(cell)
        moments = [len(self._moments) - ago for ago in look]
        if any([moment < self._last_seen.get(tie, 0) for tie, moment in zip(ties, moments)]):
            raise InvalidLook(cell)
        return moments

    def _add_moment(self, seen):
        places = dict(self._moments[-1])
        for cell, moments in seen.items():
            places[cell] = self._place_found(cell, moments)
            if all([moment >= self._phase_begins for moment in moments]):
                self._done[cell] = True
            for tie, moment in zip(self._ties_into[cell], moments):
                self._last_seen[tie] = moment
        self._moments.append(places)
        if len(self._done) == len(self._network):
            self._phases += 1
            self._phase_begins = self.moment
            self._done = {}

    def _place_found(self, cell, moments):
        kind = self._network[cell]
        offers = [self._tables.lead(tie, self._network[source], kind, self._moments[moment][source])
                  for (tie, source, _), moment in zip(self._ties_into[cell], moments)]
        return min([self._tables.birth(kind), *offers])
