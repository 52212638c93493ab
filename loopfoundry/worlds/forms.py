"""The form of trees of cases."""

from loopfoundry.base.numbers import is_between, is_name
from loopfoundry.search.judging import MAX_CIRCUIT
from loopfoundry.source.trees import is_operation

MAX_WAY_DOWN = 50
MAX_BRANCHES = 8


def has_form(interval, tree):
    """Whether the value has the form of a tree of cases for an interval."""
    return has_form_within(interval, tree, MAX_WAY_DOWN)


def has_form_within(interval, tree, room):
    """Whether the value has this form, with at most so many nodes on each way down."""
    if room == 0 or not isinstance(tree, tuple) or not 1 <= len(tree) <= 3:
        return False
    kind = tree[0]
    if len(tree) == 1:
        return kind == "cost"
    if len(tree) == 2:
        return kind == "circuit" and is_circuit(tree[1])
    if kind == "unit":
        return is_name(tree[1]) and is_between(tree[2], 0, interval - 1)
    if kind not in ("pattern", "slot") or not is_operation(tree[1]) or not isinstance(tree[2], tuple):
        return False
    if kind == "pattern":
        return are_branches(tree[2]) and all([has_form_within(interval, row[1], room - 1) for row in tree[2]])
    return len(tree[2]) in (1, interval) and all([has_form_within(interval, below, room - 1) for below in tree[2]])


def is_circuit(value):
    """Whether the value is a tuple of 1 to 64 texts of operations."""
    return isinstance(value, tuple) and 1 <= len(value) <= MAX_CIRCUIT and all([is_operation(text) for text in value])


def are_branches(rows):
    """Whether these are at most eight pairs of a name and something else, with ascending names."""
    if len(rows) > MAX_BRANCHES or not all([isinstance(row, tuple) and len(row) == 2 for row in rows]):
        return False
    if not all([is_name(row[0]) for row in rows]):
        return False
    return all([one[0] < other[0] for one, other in zip(rows, rows[1:])])


def trees_below(tree):
    """The trees directly below a tree of cases."""
    if tree[0] == "pattern":
        return [below for _, below in tree[2]]
    return list(tree[2]) if tree[0] == "slot" else []


def pattern_nodes(tree):
    """The operations of all "pattern" nodes of a tree of cases."""
    rows = [tree[1]] if tree[0] == "pattern" else []
    for below in trees_below(tree):
        rows.extend(pattern_nodes(below))
    return rows


def is_openable(interval, tree, is_below):
    """Whether no "slot" node with one tree alone stands below another one; at the interval 1 they may."""
    if interval == 1:
        return True
    if tree[0] == "slot" and is_below and len(tree[2]) == 1:
        return False
    return all([is_openable(interval, below, is_below or tree[0] == "slot") for below in trees_below(tree)])
