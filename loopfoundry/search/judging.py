"""What judges bars, by any hand and of any size."""

from loopfoundry.base.numbers import is_between
from loopfoundry.covers.boards import open_of

MAX_CIRCUIT = 64


def is_bar(field, most, tree):
    """Whether a tree is a bar."""
    return is_right_tree(field, most, tree, {}, {})


def is_right_tree(field, most, tree, told, slots):
    """Whether a tree is right by a told choice: dicts from operations to patterns, and to slots."""
    if not isinstance(tree, tuple):
        return False
    if tree == ("cost",):
        return field.is_above(told, most)
    if len(tree) == 2:
        return tree[0] == "circuit" and does_gain(field, told, slots, tree[1])
    if len(tree) != 3:
        return False
    kind, node, rows = tree
    if kind == "unit":
        return is_overasked(field, told, slots, node, rows)
    if not isinstance(node, str) or not isinstance(rows, tuple):
        return False
    if kind == "pattern":
        return are_right_branches(field, most, node, rows, (told, slots))
    return kind == "slot" and are_right_slots(field, most, node, rows, (told, slots))


def is_overasked(field, told, slots, unit, slot):
    """Whether the operations with told slots ask for a unit of the machine at a slot too often."""
    if not isinstance(unit, str) or unit not in field.unit_counts or not is_between(slot, 0, field.turn - 1):
        return False
    asking = [
        node for node in slots for use in field.asks(node, told[node])
        if use[0] == unit and (slots[node] + use[1]) % field.turn == slot
    ]
    return len(asking) > field.unit_counts[unit]


def are_right_branches(field, most, node, rows, told_choice):
    """Whether an open node has a right tree for each pattern that fits there."""
    told, slots = told_choice
    if node not in open_of(field.body_told, field.fit_rows, told):
        return False
    if not all([isinstance(row, tuple) and len(row) == 2 for row in rows]):
        return False
    if [row[0] for row in rows] != sorted([row[0] for row in field.fit_rows[node]]):
        return False
    return all([is_right_tree(field, most, row[1], {**told, node: row[0]}, slots) for row in rows])


def are_right_slots(field, most, node, rows, told_choice):
    """Whether an operation with a told pattern has a right tree for each slot that must be looked at."""
    told, slots = told_choice
    if node not in told or node in slots:
        return False
    if len(rows) != field.turn and (slots or len(rows) != 1):
        return False
    return all([is_right_tree(field, most, row, told, {**slots, node: slot}) for slot, row in enumerate(rows)])


def does_gain(field, told, slots, circuit):
    """Whether this is a circuit of told operations that gains."""
    if not isinstance(circuit, tuple) or not 1 <= len(circuit) <= MAX_CIRCUIT:
        return False
    if not all([isinstance(node, str) and node in told for node in circuit]):
        return False
    pairs = list(zip(circuit, circuit[1:] + circuit[:1]))
    if len(circuit) > 1 and any([one == other for one, other in pairs]):
        return False
    weights = [field.link((one, told[one]), (other, told[other])) for one, other in pairs]
    return None not in weights and need_of(field, slots, circuit, weights) > 0


def need_of(field, slots, circuit, weights):
    """The need of a circuit whose arcs have these weights, the arc to each next operation beside it."""
    slotted = [place for place, node in enumerate(circuit) if node in slots]
    if not slotted:
        return sum(weights)
    need, stretch, here = 0, 0, slots[circuit[slotted[0]]]
    for step in range(len(circuit)):
        place = (slotted[0] + step) % len(circuit)
        stretch += weights[place]
        node = circuit[(place + 1) % len(circuit)]
        if node in slots:
            need += stretch + (slots[node] - here - stretch) % field.turn
            stretch, here = 0, slots[node]
    return need
