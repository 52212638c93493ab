"""Slots for operations with told patterns: where they stand together, or a tree that shows that they cannot.

A *frame* is a tuple (field, told, far) of a field, told patterns, and the strongest rows of arcs
between the told operations. A *state* is a tuple (slots, counts, tight): the told slots, how often
they ask for each pair (unit, slot), and the strongest needs between the operations with slots.
"""

from loopfoundry.search.circuits import joined


def nothing_told():
    """The state without any slots."""
    return ({}, {}, {})


def crowded(field, told):
    """The told operations that use a unit which could be asked for too often."""
    wanted = {}
    for node, name in told.items():
        for unit, many in heaviest(field, node, name).items():
            wanted[unit] = wanted.get(unit, 0) + many
    scarce = [unit for unit in wanted if wanted[unit] > field.unit_counts[unit]]
    return [node for node, name in told.items() if any([use[0] in scarce for use in field.asks(node, name)])]


def heaviest(field, node, name):
    """For each unit that a pattern uses how often it asks for it at its worst slot."""
    counts = {}
    for unit, offset in field.asks(node, name):
        at = (unit, offset % field.turn)
        counts[at] = counts.get(at, 0) + 1
    return {unit: max([many for at, many in counts.items() if at[0] == unit]) for unit, _ in counts}


def groups_of(frame, nodes):
    """The operations in groups that have nothing to do with one another."""
    groups = []
    for node in nodes:
        near = [group for group in groups if any([are_near(frame, node, other) for other in group])]
        groups = [group for group in groups if group not in near]
        groups.append([node] + [other for group in near for other in group])
    return groups


def are_near(frame, one, other):
    """Whether two operations use a common unit, or stand on a common circuit."""
    field, told, far = frame
    if (one, other) in far and (other, one) in far:
        return True
    units = [use[0] for use in field.asks(other, told[other])]
    return any([use[0] in units for use in field.asks(one, told[one])])


def with_slot(frame, state, node, slot):
    """The state with one more slot told, and the leaf that shows that it cannot be: one of both is None."""
    field, told, far = frame
    slots, counts, tight = state
    more = {at: counts[at] for at in counts}
    for unit, offset in field.asks(node, told[node]):
        at = (unit, (slot + offset) % field.turn)
        more[at] = more.get(at, 0) + 1
        if more[at] > field.unit_counts[unit]:
            return (None, ("unit", *at))
    links = {}
    for other in slots:
        for pair, apart in (((other, node), slot - slots[other]), ((node, other), slots[other] - slot)):
            if pair in far:
                weight, path = far[pair]
                links[pair] = (weight + (apart - weight) % field.turn, path)
    tighter, circuit = joined(tight, list(slots), node, links)
    if circuit is not None:
        return (None, ("circuit", circuit))
    return (({**slots, node: slot}, more, tighter), None)


def slots_to_try(field, state):
    """The slots for a further operation: the first one can have any, so it has 0."""
    return list(range(field.turn)) if state[0] else [0]


def slots_for(frame, nodes):
    """Slots with which the operations stand together, or None; what was found once is remembered."""
    field, told, far = frame
    asks = tuple([field.asks(node, told[node]) for node in nodes])
    weights = tuple([far[(one, other)][0] if (one, other) in far else None for one in nodes for other in nodes])
    if (asks, weights) not in field.memory:
        slots = search_slots(frame, nothing_told(), nodes)
        field.memory[(asks, weights)] = None if slots is None else tuple([slots[node] for node in nodes])
    known = field.memory[(asks, weights)]
    return None if known is None else dict(zip(nodes, known))


def search_slots(frame, state, nodes):
    """Slots for the operations that have none yet, with those that are told; None if there are none."""
    if len(state[0]) == len(nodes):
        return state[0]
    node = nodes[len(state[0])]
    for slot in slots_to_try(frame[0], state):
        further, _ = with_slot(frame, state, node, slot)
        slots = None if further is None else search_slots(frame, further, nodes)
        if slots is not None:
            return slots
    return None


def core_of(frame, nodes):
    """A least number of operations for which there are no slots, out of some for which there are none."""
    rows = [[]]
    for _ in nodes:
        rows = [[*row, node] for row in rows for node in nodes if not row or nodes.index(node) > nodes.index(row[-1])]
        for row in rows:
            if slots_for(frame, row) is None:
                return row
    return nodes


def slot_tree(frame, state, nodes):
    """A tree that is right with these slots told, for operations for which there are no slots."""
    field, best = frame[0], None
    for node in [text for text in nodes if text not in state[0]]:
        rows = [with_slot(frame, state, node, slot) for slot in slots_to_try(field, state)]
        many = len([leaf for _, leaf in rows if leaf is None])
        if best is None or many < best[0]:
            best = (many, node, rows)
    _, node, rows = best
    trees = [slot_tree(frame, further, nodes) if leaf is None else leaf for further, leaf in rows]
    return ("slot", node, tuple(trees))


def slotted_in(tree):
    """The operations that a tree of slots tells of, each with True."""
    if tree[0] == "circuit":
        return {node: True for node in tree[1]}
    if tree[0] == "unit":
        return {}
    used = {tree[1]: True}
    for below in tree[2]:
        used.update(slotted_in(below))
    return used
