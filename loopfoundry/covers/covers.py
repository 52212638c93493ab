"""Covers of bodies by patterns, beginnings of covers, cost tables, and papers for least costs."""

from loopfoundry.base.numbers import check_known, check_number, is_between
from loopfoundry.covers.boards import check_world, choices_of, cost_of, costs_at, has_all, is_begun, is_full
from loopfoundry.covers.boards import counts_of, least_of, open_of, product_of, roots_of, row_of, sorted_dict, sum_of
from loopfoundry.covers.boards import unpriced
from loopfoundry.errors import InvalidArgument, InvalidCover


def checked_choices(body, machine):
    """The choices of a body by a machine; an error unless they are such."""
    check_world(body, machine)
    return choices_of(body, machine)


def check_cover(body, choices, cover):
    """Raise InvalidCover unless this is a cover."""
    if not is_full(body, choices, cover):
        raise InvalidCover("no cover")


def check_beginning(body, choices, beginning):
    """Raise InvalidCover unless this is a beginning."""
    if not is_begun(body, choices, beginning):
        raise InvalidCover("no beginning")


def check_node(choices, node):
    """Raise InvalidArgument unless this is a working node."""
    if not isinstance(node, str) or node not in choices:
        raise InvalidArgument("no working node")


def fitting(body, machine):
    """A dict from all working nodes to the names of the patterns that fit there."""
    choices = checked_choices(body, machine)
    return {node: tuple([row[0] for row in choices[node]]) for node in choices}


def wants(body, machine, node, name):
    """The ascending working nodes in the holes of a pattern at a node."""
    choices = checked_choices(body, machine)
    check_node(choices, node)
    check_known(name, machine.names)
    row = row_of(choices, node, name)
    if row is None:
        raise InvalidArgument("the pattern does not fit there")
    return row[2]


def is_cover(body, machine, value):
    """Whether the value is a cover."""
    return is_full(body, checked_choices(body, machine), value)


def cover_cost(body, machine, cover):
    """The sum of the costs of the patterns of a cover."""
    choices = checked_choices(body, machine)
    check_cover(body, choices, cover)
    return cost_of(choices, cover)


def cover_row(body, machine, cover):
    """The indices of the patterns of a cover, in the order of its operations."""
    check_cover(body, checked_choices(body, machine), cover)
    return tuple([machine.index_of(cover[node]) for node in sorted(cover)])


def is_beginning(body, machine, value):
    """Whether the value is a beginning of a cover."""
    return is_begun(body, checked_choices(body, machine), value)


def open_nodes(body, machine, beginning):
    """The ascending open nodes of a beginning."""
    choices = checked_choices(body, machine)
    check_beginning(body, choices, beginning)
    return open_of(body, choices, beginning)


def open_count(body, machine, beginning):
    """How many covers go on with a beginning."""
    choices = checked_choices(body, machine)
    check_beginning(body, choices, beginning)
    counts = counts_of(unpriced(choices))
    return product_of(counts, open_of(body, choices, beginning)).get(0, 0)


def open_cost(body, machine, beginning):
    """The least cost of the covers that go on with a beginning, or None."""
    choices = checked_choices(body, machine)
    check_beginning(body, choices, beginning)
    least, wanted = least_of(choices), open_of(body, choices, beginning)
    if not has_all(least, wanted):
        return None
    return cost_of(choices, beginning) + sum_of(least, wanted)


def is_table(body, machine, value):
    """Whether the value is a cost table."""
    return is_cost_table(checked_choices(body, machine), value)


def is_cost_table(choices, value):
    """Whether the value is a cost table for these choices."""
    if not isinstance(value, dict):
        return False
    if not all([node in choices and is_between(value[node], 0, None) for node in value]):
        return False
    for node in choices:
        costs = costs_at(choices, node, value)
        if costs and (node not in value or value[node] > min(costs)):
            return False
    return True


def least_table(body, machine):
    """The least cost table."""
    return least_of(checked_choices(body, machine))


def cheapest(body, machine):
    """A cover with the least cost, or None."""
    return cheapest_of(body, checked_choices(body, machine))


def cheapest_of(body, choices):
    """A cover with the least cost by these choices, or None."""
    least, wanted, cover = least_of(choices), list(roots_of(body)), {}
    if not has_all(least, wanted):
        return None
    while wanted:
        node = wanted.pop()
        rows = [row for row in choices[node] if has_all(least, row[2])]
        name, _, further = min(rows, key=lambda row: row[1] + sum_of(least, row[2]))
        cover[node] = name
        wanted.extend(further)
    return sorted_dict(cover)


def bound_of(body, table):
    """The sum of a table's integers of all roots; None if a root is not in it."""
    wanted = roots_of(body)
    return sum_of(table, wanted) if has_all(table, wanted) else None


def cover_paper(body, machine):
    """A paper for the least cost of a cover, or one that shows that there is none."""
    choices = checked_choices(body, machine)
    cover, table = cheapest_of(body, choices), least_of(choices)
    return ("bare", table) if cover is None else ("covered", cover, table)


def is_cover_paper(body, machine, value):
    """Whether the value is such a paper."""
    choices = checked_choices(body, machine)
    if not isinstance(value, tuple) or len(value) < 2 or not is_cost_table(choices, value[-1]):
        return False
    bound = bound_of(body, value[-1])
    if value[0] == "bare":
        return len(value) == 2 and bound is None
    if value[0] != "covered" or len(value) != 3 or not is_full(body, choices, value[1]):
        return False
    return cost_of(choices, value[1]) == bound


def cost_paper(body, machine, cost):
    """A paper that shows a cover of at most this cost, or that there is none."""
    choices = checked_choices(body, machine)
    check_number(cost, 0, None)
    cover = cheapest_of(body, choices)
    if cover is not None and cost_of(choices, cover) <= cost:
        return ("within", cover)
    return ("beyond", least_of(choices))


def is_cost_paper(body, machine, cost, value):
    """Whether the value is such a paper."""
    choices = checked_choices(body, machine)
    check_number(cost, 0, None)
    if not isinstance(value, tuple) or len(value) != 2:
        return False
    if value[0] == "within":
        return is_full(body, choices, value[1]) and cost_of(choices, value[1]) <= cost
    if value[0] != "beyond" or not is_cost_table(choices, value[1]):
        return False
    bound = bound_of(body, value[1])
    return bound is None or bound > cost
