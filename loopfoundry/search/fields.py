"""What is told again and again of a body, a machine and an interval: fields, told choices, circuits."""

from loopfoundry.covers.boards import choices_of, cost_of, has_all, least_of, open_of, sum_of
from loopfoundry.jobs.parts import arcs_of, part_of
from loopfoundry.memory.flows import flows


class Field:
    """A body and a machine with an interval: where patterns fit, and what they read and ask for there."""

    def __init__(self, body, machine, interval):
        self.body_told = body
        self.turn = interval
        self.fit_rows = choices_of(body, machine)
        self.least_costs = least_of(self.fit_rows)
        self.unit_counts = machine.units
        self._flow_rows = flows(body)
        self._parts = {
            (node, row[0]): part_of(body, node, machine.pattern(row[0])) for node in self.fit_rows
            for row in self.fit_rows[node]
        }
        self._links = {}
        self.memory = {}

    def asks(self, node, name):
        """The pairs (unit, offset) of a pattern at a node."""
        return self._parts[(node, name)][1]

    def link(self, one, other):
        """The greatest delay less the interval times the distance, of the told arcs between two pairs
        (node, pattern); None if there is none."""
        if (one, other) not in self._links:
            self._links[(one, other)] = self._strongest(one, other)
        return self._links[(one, other)]

    def _strongest(self, one, other):
        arcs = arcs_of({pair[0]: self._parts[pair] for pair in (one, other)}, self._flow_rows)
        between = [arc for arc in arcs if arc[0] == one[0] and arc[1] == other[0]]
        return max([delay - self.turn * distance for _, _, delay, distance in between], default=None)

    def floor(self, told):
        """The least cost of the covers that go on with a told choice; None if there is none."""
        wanted = open_of(self.body_told, self.fit_rows, told)
        if not has_all(self.least_costs, wanted):
            return None
        return cost_of(self.fit_rows, told) + sum_of(self.least_costs, wanted)

    def is_above(self, told, most):
        """Whether the floor of a told choice is above the greatest cost, or above every cost."""
        cost = self.floor(told)
        return cost is None or (most is not None and cost > most)
