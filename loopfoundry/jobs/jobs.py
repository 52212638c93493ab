"""Jobs: bodies that are covered by the patterns of a machine."""

from loopfoundry.base.numbers import check_number
from loopfoundry.covers.boards import check_world, choices_of, cost_of, is_full
from loopfoundry.errors import InvalidArgument, InvalidCover, UnknownName
from loopfoundry.jobs.parts import arcs_of, parts_of
from loopfoundry.memory.flows import flows
from loopfoundry.source.bodies import MAX_ROUNDS, value_of
from loopfoundry.source.trees import path_of


def aboves_of(parts):
    """A dict from the operations that stand in holes to those in whose holes they stand."""
    # An operand of the same statement with the distance 0 stands in a hole: no statement reads itself so.
    return {
        source: text
        for text, part in parts.items()
        for source, distance in part[2]
        if distance == 0 and path_of(source)[0] == path_of(text)[0]
    }


def ended_run(values, cells):
    """The pair that a run returns: the tuples of the values, and the ascending cells."""
    rows = {text: tuple(values[text]) for text in values}
    return (rows, {at: cells[at] for at in sorted(cells)})


class Job:
    """A body with a cover by a machine."""

    def __init__(self, body, machine, cover):
        check_world(body, machine)
        choices = choices_of(body, machine)
        if not is_full(body, choices, cover):
            raise InvalidCover("no cover")
        self._body = body
        self._machine = machine
        self._cover = {text: cover[text] for text in sorted(cover)}
        self._operations = tuple(self._cover)
        self._parts = parts_of(body, machine, cover)
        self._aboves = aboves_of(self._parts)
        self._arcs = arcs_of(self._parts, flows(body))
        self._cost = cost_of(choices, cover)
        stores = [row[0] for row in body.stores]
        self._valued = tuple([text for text in self._operations if text not in stores])

    @property
    def body(self):
        return self._body

    @property
    def machine(self):
        return self._machine

    @property
    def cover(self):
        return dict(self._cover)

    @property
    def operations(self):
        """The ascending operations of the cover."""
        return self._operations

    @property
    def arcs(self):
        """The ascending arcs (source, target, delay, distance)."""
        return self._arcs

    @property
    def cost(self):
        """The sum of the costs of the patterns."""
        return self._cost

    @property
    def valued(self):
        """The ascending operations that are no stores."""
        return self._valued

    def __getitem__(self, at):
        if not isinstance(at, str) or at not in self._cover:
            raise UnknownName(at)
        return self._cover[at]

    def __contains__(self, x):
        return isinstance(x, str) and x in self._cover

    def __len__(self):
        return len(self._operations)

    def __iter__(self):
        return iter(self._operations)

    def __eq__(self, other):
        return (
            isinstance(other, Job)
            and self._body == other._body
            and self._machine == other._machine
            and self._cover == other._cover
        )

    def __str__(self):
        return f"job of {len(self._operations)} operations, {len(self._arcs)} arcs"

    def ticks(self, operation):
        """The ticks of the pattern of an operation."""
        return self._part(operation)[0]

    def uses(self, operation):
        """The uses of the pattern of an operation."""
        return self._part(operation)[1]

    def operands(self, operation):
        """The operands of an operation, from left to right."""
        return self._part(operation)[2]

    def loaded(self, operation):
        """The nodes of the loads within the pattern of an operation, from left to right."""
        return self._part(operation)[3]

    def above(self, operation):
        """The operation in whose hole an operation stands, or None for a root."""
        self._part(operation)
        return self._aboves.get(operation, None)

    def run(self, rounds, meaning, first, contents):
        """The values of the operations, and the stored cells, of a run of so many rounds."""
        check_number(rounds, 0, MAX_ROUNDS)
        values, cells = {text: [] for text in self._valued}, {}
        for number in range(rounds):
            self._do_round(number, (meaning, first, contents), values, cells)
        return ended_run(values, cells)

    def _do_round(self, number, told, values, cells):
        """Do one round of a run: add its values and cells to those that are done."""
        for statement in self._body.statements:
            if statement[0] == "store":
                cell = (statement[2], statement[3] * number + statement[4])
                worth = value_of(statement[5], number, told, (values, cells))
            for text in self._valued:
                if path_of(text)[0] == statement[1]:
                    tree = self._body.tree(text)
                    values[text].append(value_of(tree, number, told, (values, cells)))
            if statement[0] == "store":
                cells[cell] = worth

    def _part(self, operation):
        """The part of an operation of the job."""
        if not isinstance(operation, str) or operation not in self._parts:
            raise InvalidArgument("no operation of the job")
        return self._parts[operation]
