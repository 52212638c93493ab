"""What operations of a cover read, and the arcs between them.

The *part* of an operation is a tuple (ticks, uses, operands, loaded). Parts are also told of
operations of which a cover is not known as a whole; arcs lead between those that are told.
"""

from loopfoundry.machine.shapes import paths_of
from loopfoundry.source.trees import path_of, text_at


def node_below(statement, path):
    """What stands at a path of a statement: a tree, or the whole store."""
    node, rest = (statement, path) if statement[0] == "store" else (statement[2], path)
    for index in rest:
        node = node[5] if node[0] == "store" else node[2 + index]
    return node


def operand_at(body, name, path):
    """The operand of a hole at a path of a statement: an operation and a distance."""
    node = node_below(body[name], path)
    return (node[1], node[2]) if node[0] == "at" else (text_at(name, path), 0)


def part_of(body, operation, pattern):
    """The part of an operation by a pattern that fits there."""
    name, path = path_of(operation)
    _, shape, ticks, _, uses = pattern
    operands = [operand_at(body, name, path + hole) for hole in paths_of(shape, "hole")]
    loaded = [text_at(name, path + load) for load in paths_of(shape, "load")]
    return (ticks, uses, tuple(operands), tuple(loaded))


def hole_texts(operation, pattern):
    """The texts of what stands in the holes of a pattern at an operation, from left to right."""
    name, path = path_of(operation)
    return [text_at(name, path + hole) for hole in paths_of(pattern[1], "hole")]


def parts_of(body, machine, cover):
    """A dict from the operations of a cover, or of a beginning, ascending, to their parts."""
    return {text: part_of(body, text, machine.pattern(cover[text])) for text in sorted(cover)}


def operand_arcs(parts):
    """The arcs from operands."""
    rows = []
    for target, part in parts.items():
        for source, distance in part[2]:
            if source in parts:
                rows.append((source, target, parts[source][0], distance))
    return rows


def memory_arcs(parts, flow_rows):
    """The arcs of stores and loads, by the flows of the body."""
    homes = {load: text for text, part in parts.items() for load in part[3]}
    rows = []
    for kind, store, load, distance in flow_rows:
        if store in parts and load in homes:
            ticks, home = parts[store][0], homes[load]
            rows.append((store, home, ticks, distance) if kind == "flow" else (home, store, 1 - ticks, distance))
    return rows


def arcs_of(parts, flow_rows):
    """The ascending arcs between operations with these parts, each once."""
    rows = operand_arcs(parts) + memory_arcs(parts, flow_rows)
    return tuple(sorted(set([arc for arc in rows if arc[0] != arc[1] or arc[3] != 0])))
