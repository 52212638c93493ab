"""Sums of bodies that stand side by side, and joined trees of cases, which bar them."""

from loopfoundry.covers.boards import check_world
from loopfoundry.errors import InvalidArgument
from loopfoundry.jobs.starts import check_interval
from loopfoundry.memory.flows import check_body
from loopfoundry.source.bodies import MAX_NODES, Body
from loopfoundry.worlds.forms import has_form, is_openable
from loopfoundry.worlds.order import fits_somewhere


def are_side_by_side(body, value):
    """Whether the value is a body side by side with this one."""
    check_body(body)
    return isinstance(value, Body) and are_apart(body, value)


def are_apart(body, other):
    """Whether two bodies have no common name, and neither stores an array that the other one has."""
    if any([name in other for name in body]):
        return False
    return not stores_into(body, other) and not stores_into(other, body)


def stores_into(body, other):
    """Whether a body stores an array that the other one has."""
    return any([row[1] in other.arrays for row in body.stores])


def together(body, other):
    """The sum of two bodies."""
    check_body(body)
    check_body(other)
    if not are_apart(body, other) or len(body.operations) + len(other.operations) > MAX_NODES:
        raise InvalidArgument("not side by side, or too great")
    return Body.of(body.statements + other.statements)


def units_used(body, machine):
    """The ascending units of the patterns that fit somewhere."""
    check_world(body, machine)
    rows = [use[0] for pattern in machine.patterns if fits_somewhere(body, pattern) for use in pattern[4]]
    return tuple(sorted(set(rows)))


def check_openable(interval, tree):
    """Raise InvalidArgument unless this is a tree of cases that can be opened."""
    if not has_form(interval, tree) or not is_openable(interval, tree, False):
        raise InvalidArgument("no tree of cases that can be opened")


def opened(interval, tree):
    """The tree with a tree for each slot in each "slot" node."""
    check_interval(interval)
    check_openable(interval, tree)
    return opened_tree(interval, tree)


def opened_tree(interval, tree):
    """The opened tree of cases."""
    if tree[0] == "pattern":
        return (*tree[:2], tuple([(name, opened_tree(interval, below)) for name, below in tree[2]]))
    if tree[0] != "slot" or len(tree[2]) == interval:
        return tree
    return (*tree[:2], tuple([turned(interval, tree[2][0], slot) for slot in range(interval)]))


def turned(interval, tree, by):
    """The tree with all slots later; below a "slot" node all have a tree for each slot."""
    if tree[0] == "pattern":
        return (*tree[:2], tuple([(name, turned(interval, below, by)) for name, below in tree[2]]))
    if tree[0] == "slot":
        return (*tree[:2], tuple([turned(interval, tree[2][slot - by], by) for slot in range(interval)]))
    return (*tree[:2], (tree[2] + by) % interval) if tree[0] == "unit" else tree


def joined(interval, tree, other):
    """The first tree with the second one in the place of each ("cost",), opened below a "slot" node."""
    check_interval(interval)
    check_openable(interval, tree)
    check_openable(interval, other)
    return joined_tree(tree, other, opened_tree(interval, other))


def joined_tree(tree, other, below_slots):
    """The tree with another one in the place of each ("cost",), or one more below "slot" nodes."""
    if tree[0] == "cost":
        return other
    if tree[0] == "pattern":
        return (*tree[:2], tuple([(name, joined_tree(below, other, below_slots)) for name, below in tree[2]]))
    if tree[0] == "slot":
        return (*tree[:2], tuple([joined_tree(below, below_slots, below_slots) for below in tree[2]]))
    return tree
