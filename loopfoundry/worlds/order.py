"""Which world is no harder than another one, and what ways and bars become by that."""

from loopfoundry.covers.boards import check_world, choices_of
from loopfoundry.errors import InvalidArgument
from loopfoundry.jobs.starts import check_interval
from loopfoundry.machine.shapes import does_fit
from loopfoundry.memory.flows import check_body, flows
from loopfoundry.worlds.forms import has_form, pattern_nodes


def is_no_harder(body, machine, other_body, other_machine):
    """Whether the first world is no harder than the other one."""
    check_world(body, machine)
    check_world(other_body, other_machine)
    return (
        all([name in other_body and is_like_statement(body[name], other_body[name]) for name in body])
        and has_better_patterns(body, machine, other_machine)
        and has_longer_flows(body, other_body)
    )


def is_like_statement(statement, other):
    """Whether two statements are of one kind, with trees of which the first one reads no less far back."""
    return statement[0] == other[0] and is_like_tree(statement[-1], other[-1])


def is_like_tree(tree, other):
    """Whether two trees are equal but for places, and the first one reads no less far back."""
    if tree[0] != other[0]:
        return False
    if tree[0] == "load":
        return True
    if tree[0] == "at":
        return tree[1] == other[1] and tree[2] >= other[2]
    if tree[1] != other[1] or len(tree) != len(other):
        return False
    return all([is_like_tree(below, other_below) for below, other_below in zip(tree[2:], other[2:])])


def has_better_patterns(body, machine, other_machine):
    """Whether each pattern of the other machine that fits somewhere is in the machine, and no worse there."""
    for pattern in other_machine.patterns:
        if fits_somewhere(body, pattern) and not is_better(machine, pattern, other_machine):
            return False
    return True


def fits_somewhere(body, pattern):
    """Whether a pattern fits at a working node of the body."""
    return any([does_fit(pattern[1], body.tree(text)) for text in body.operations])


def is_better(machine, pattern, other_machine):
    """Whether a pattern of the other machine is in the machine, and no worse there."""
    name, shape, ticks, cost, uses = pattern
    if name not in machine.names:
        return False
    _, own_shape, own_ticks, own_cost, own_uses = machine.pattern(name)
    if own_shape != shape or own_cost > cost or own_ticks > ticks:
        return False
    if shape[0] == "store" and own_ticks != ticks:
        return False
    return all([use in uses and machine.copies(use[0]) >= other_machine.copies(use[0]) for use in own_uses])


def has_longer_flows(body, other_body):
    """Whether all that the loads of the body can find or miss is in the other body, too, and no farther."""
    farther = {row[:3]: row[3] for row in flows(other_body)}
    return all([row[:3] in farther and farther[row[:3]] <= row[3] for row in flows(body)])


def left_to(body, row):
    """The dict with those items whose keys are operations of the body."""
    check_body(body)
    if not isinstance(row, dict):
        raise InvalidArgument("no dict")
    return {text: row[text] for text in body.operations if text in row}


def trimmed(body, machine, interval, tree):
    """The tree whose "pattern" nodes have only the branches of patterns of the machine that fit there."""
    check_world(body, machine)
    check_interval(interval)
    if not has_form(interval, tree) or not all([node in body.operations for node in pattern_nodes(tree)]):
        raise InvalidArgument("no tree of cases, or a pattern at no operation of the body")
    return trimmed_tree(choices_of(body, machine), tree)


def trimmed_tree(choices, tree):
    """The tree with only the branches of these choices."""
    if tree[0] == "slot":
        return (*tree[:2], tuple([trimmed_tree(choices, below) for below in tree[2]]))
    if tree[0] != "pattern":
        return tree
    names = [row[0] for row in choices[tree[1]]]
    return (*tree[:2], tuple([(name, trimmed_tree(choices, below)) for name, below in tree[2] if name in names]))
