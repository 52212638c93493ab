"""The search for a way or a bar.

A search returns a tuple (way, tree, used). Either `way` is a pair of told patterns and slots, or it
is None, and `tree` is a tree that is right by the told choice, also by that of the operations in
the dict `used` alone. So a tree that does not use what was told last is one for what was told before.
"""

from loopfoundry.covers.boards import has_all, open_of, sum_of
from loopfoundry.search.circuits import joined
from loopfoundry.search.slots import core_of, crowded, groups_of, nothing_told, slot_tree, slots_for, slotted_in


def search(field, most):
    """A way, or a bar, for a greatest cost, or None for none."""
    if field.is_above({}, most):
        return (None, ("cost",), {})
    return search_on(field, most, {}, {})


def search_on(field, most, told, far):
    """A way that goes on with told patterns, or a tree: nothing bars these patterns alone."""
    wanted = open_of(field.body_told, field.fit_rows, told)
    if not wanted:
        return ((told, all_slots((field, told, far))), None, None)
    node = min(wanted, key=lambda text: len(field.fit_rows[text]))
    branches, used = {}, {}
    for name in names_by_cost(field, node):
        way, tree, needs = search_with(field, most, {**told, node: name}, far)
        if way is not None or node not in needs:
            return (way, tree, needs)
        branches[name] = tree
        used.update(needs)
    # The node is open only where all that it stands below is told.
    needed = {text: True for text in [*used, *over(told, node)] if text != node}
    return (None, ("pattern", node, tuple([(name, branches[name]) for name in sorted(branches)])), needed)


def names_by_cost(field, node):
    """The names of the patterns that fit at a node, those of the cheapest covers first."""
    costs = {row[0]: cost_with(field, row) for row in field.fit_rows[node]}
    priced = sorted([(cost, name) for name, cost in costs.items() if cost is not None])
    return [name for _, name in priced] + [name for name in costs if costs[name] is None]


def cost_with(field, row):
    """The least cost of a pattern and of what is below it; None if that cannot be covered."""
    return row[1] + sum_of(field.least_costs, row[2]) if has_all(field.least_costs, row[2]) else None


def search_with(field, most, told, far):
    """A way that goes on with told patterns, or a tree: the last one was told just now."""
    if field.is_above(told, most):
        return (None, ("cost",), costly(field, most, told))
    *nodes, node = list(told)
    links = links_to(field, told, nodes, node)
    further, circuit = joined(far, nodes, node, links)
    if circuit is not None:
        return (None, ("circuit", circuit), {text: True for text in circuit})
    frame = (field, told, further)
    for group in groups_of(frame, crowded(field, told)):
        if slots_for(frame, group) is None:
            tree = slot_tree(frame, nothing_told(), core_of(frame, group))
            return (None, tree, slotted_in(tree))
    return search_on(field, most, told, further)


def links_to(field, told, nodes, node):
    """The links between an operation and the others that are told, with their paths."""
    pairs = [(other, node) for other in nodes] + [(node, other) for other in nodes] + [(node, node)]
    links = {}
    for one, other in pairs:
        weight = field.link((one, told[one]), (other, told[other]))
        if weight is not None:
            links[(one, other)] = (weight, (one,))
    return links


def all_slots(frame):
    """Slots for all operations that could ask for a unit too often, all of which stand together."""
    slots = {}
    for group in groups_of(frame, crowded(frame[0], frame[1])):
        slots.update(slots_for(frame, group))
    return slots


def costly(field, most, told):
    """Some told operations, each with True, whose floor is above the greatest cost, too."""
    used = {node: told[node] for node in told}
    for node in reversed(list(told)):
        fewer = {text: used[text] for text in used if text != node}
        # An operation stands only where the one above it is told.
        if node not in [above_of(told, text) for text in fewer] and field.is_above(fewer, most):
            used = fewer
    return {node: True for node in used}


def above_of(told, node):
    """The told operation in whose hole a told or open node stands; None for a root."""
    text = node
    while "." in text:
        text = text.rpartition(".")[0]
        if text in told:
            return text
    return None


def over(told, node):
    """The told operations that a node stands below."""
    rows, text = [], above_of(told, node)
    while text is not None:
        rows.append(text)
        text = above_of(told, text)
    return rows
