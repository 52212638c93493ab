"""What both modules of covers rest on: where patterns fit, and tables over all working nodes.

`choices` is a dict from each working node, ascending, to a tuple of rows (name, cost, wants), one
for each pattern that fits there, in the machine's order. A node stands in the order of texts
behind the one that it hangs below, and all nodes below it stand directly behind it.
"""

from loopfoundry.errors import InvalidBody, InvalidMachine
from loopfoundry.machine.machines import Machine
from loopfoundry.machine.shapes import does_fit, holes
from loopfoundry.source.bodies import Body
from loopfoundry.source.trees import path_of, text_at


def check_world(body, machine):
    """Raise an error unless these are a body and a machine."""
    if not isinstance(body, Body):
        raise InvalidBody("no body")
    if not isinstance(machine, Machine):
        raise InvalidMachine("no machine")


def wants_of(body, node, shape):
    """The ascending working nodes that stand in the holes of a shape at a node."""
    name, path = path_of(node)
    found = [text_at(name, path + hole) for hole in holes(shape)]
    return tuple([text for text in found if text in body.operations])


def choices_of(body, machine):
    """The choices of a body by a machine."""
    choices = {}
    for node in body.operations:
        fit = [row for row in machine.patterns if does_fit(row[1], body.tree(node))]
        choices[node] = tuple([(row[0], row[3], wants_of(body, node, row[1])) for row in fit])
    return choices


def roots_of(body):
    """The ascending roots of a body."""
    return tuple(sorted(body.names))


def row_of(choices, node, name):
    """The row of a pattern that fits at a node, or None."""
    for row in choices[node]:
        if row[0] == name:
            return row
    return None


def sorted_dict(table):
    """The dict with its keys ascending."""
    return {key: table[key] for key in sorted(table)}


def least_of(choices):
    """The least cost below each coverable node."""
    least = {}
    for node in sorted(choices, reverse=True):
        costs = costs_at(choices, node, least)
        if costs:
            least[node] = min(costs)
    return sorted_dict(least)


def costs_at(choices, node, table):
    """What each pattern that fits at a node costs with its wants, by a table that has all of them."""
    rows = [row for row in choices[node] if has_all(table, row[2])]
    return [row[1] + sum_of(table, row[2]) for row in rows]


def has_all(table, wanted):
    """Whether all the wanted nodes are in the table."""
    return all([node in table for node in wanted])


def sum_of(table, wanted):
    """The sum of the integers of the wanted nodes."""
    return sum([table[node] for node in wanted])


def is_begun(body, choices, value):
    """Whether the value is a beginning."""
    if not isinstance(value, dict):
        return False
    for node, name in value.items():
        if node not in choices or row_of(choices, node, name) is None:
            return False
    found = found_nodes(body, choices, value)
    return all([node in found for node in value])


def found_nodes(body, choices, beginning):
    """The roots, and the wants of all patterns of a beginning."""
    found = list(roots_of(body))
    for node, name in beginning.items():
        found.extend(row_of(choices, node, name)[2])
    return found


def open_of(body, choices, beginning):
    """The ascending open nodes of a beginning."""
    return tuple(sorted([node for node in found_nodes(body, choices, beginning) if node not in beginning]))


def is_full(body, choices, value):
    """Whether the value is a cover."""
    return is_begun(body, choices, value) and not open_of(body, choices, value)


def cost_of(choices, beginning):
    """The sum of the costs of the patterns of a beginning."""
    return sum([row_of(choices, node, name)[1] for node, name in beginning.items()])


def counts_of(choices):
    """For each node a dict from costs to how many ways there are to cover all below it for just so much."""
    counts = {}
    for node in sorted(choices, reverse=True):
        total = {}
        for _, cost, wanted in choices[node]:
            for more, many in product_of(counts, wanted).items():
                total[cost + more] = total.get(cost + more, 0) + many
        counts[node] = total
    return counts


def product_of(counts, wanted):
    """How many ways there are, for each cost, to cover all below all of the wanted nodes."""
    total = {0: 1}
    for node in wanted:
        total = times(total, counts[node])
    return total


def times(one, other):
    """How many pairs there are for each cost, of two dicts from costs to how many."""
    total = {}
    for cost, many in one.items():
        for more, further in other.items():
            total[cost + more] = total.get(cost + more, 0) + many * further
    return total


def unpriced(choices):
    """The choices with all costs 0, so that all covers have one cost."""
    return {node: tuple([(name, 0, wanted) for name, _, wanted in rows]) for node, rows in choices.items()}
