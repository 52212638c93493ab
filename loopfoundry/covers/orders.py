"""Covers in their order and by their costs, margins of patterns, and hurried covers."""

from loopfoundry.base.numbers import check_known, check_number
from loopfoundry.covers.boards import cost_of, counts_of, has_all, least_of, product_of
from loopfoundry.covers.boards import roots_of, row_of, sorted_dict, sum_of, times, unpriced
from loopfoundry.covers.covers import check_cover, check_node, checked_choices
from loopfoundry.errors import InvalidArgument


def count_covers(body, machine):
    """The number of all covers."""
    counts = counts_of(unpriced(checked_choices(body, machine)))
    return product_of(counts, roots_of(body)).get(0, 0)


def each_cover(body, machine):
    """All covers, ascending."""
    choices = unpriced(checked_choices(body, machine))
    counts, roots = counts_of(choices), roots_of(body)
    many = product_of(counts, roots).get(0, 0)
    number = 0
    while number < many:
        yield picked(choices, counts, roots, 0, number)
        number += 1


def cover_at(body, machine, number):
    """The cover with this index among all covers, ascending."""
    choices = unpriced(checked_choices(body, machine))
    return checked_pick(body, choices, 0, number)


def checked_pick(body, choices, cost, number):
    """The cover with this index among those of a cost; an error if there is none."""
    counts, roots = counts_of(choices), roots_of(body)
    check_number(number, 0, product_of(counts, roots).get(cost, 0) - 1)
    return picked(choices, counts, roots, cost, number)


def stacked(counts, stack, wanted):
    """The stack with further nodes on it, the first one on top.

    A row of the stack is a node, and for all nodes under it a dict from costs to how many ways
    there are to cover all below them for just so much.
    """
    rows = list(stack)
    for node in reversed(list(wanted)):
        rest = times(counts[rows[-1][0]], rows[-1][1]) if rows else {0: 1}
        rows.append((node, rest))
    return rows


def ways_with(counts, rest, row, cost):
    """How many ways of just this cost begin with a row of the choices, `rest` being under it on the stack."""
    left = cost - row[1]
    return sum([many * rest.get(left - more, 0) for more, many in product_of(counts, row[2]).items()])


def picked(choices, counts, roots, cost, number):
    """The cover with this index among those of a cost, of which there are more."""
    cover, stack = {}, stacked(counts, [], roots)
    while stack:
        node, rest = stack.pop()
        row, number = picked_row(choices[node], counts, rest, cost, number)
        cover[node] = row[0]
        cost -= row[1]
        stack = stacked(counts, stack, row[2])
    return cover


def picked_row(rows, counts, rest, cost, number):
    """The row of the choices that the way with this index has, and its index among those with this row."""
    for row in rows:
        many = ways_with(counts, rest, row, cost)
        if number < many:
            return (row, number)
        number -= many
    return (None, number)


def number_of(body, machine, cover):
    """The index of a cover among all covers, ascending."""
    choices = unpriced(checked_choices(body, machine))
    check_cover(body, choices, cover)
    counts, number = counts_of(choices), 0
    stack = stacked(counts, [], roots_of(body))
    while stack:
        node, rest = stack.pop()
        row = row_of(choices, node, cover[node])
        lesser = choices[node][:choices[node].index(row)]
        number += sum([ways_with(counts, rest, other, 0) for other in lesser])
        stack = stacked(counts, stack, row[2])
    return number


def covers_by_cost(body, machine):
    """A dict from the costs of the covers to how many covers have them."""
    counts = counts_of(checked_choices(body, machine))
    return sorted_dict(product_of(counts, roots_of(body)))


def cover_by_cost(body, machine, cost, number):
    """The cover with this index among the ascending ones of this cost."""
    choices = checked_choices(body, machine)
    check_number(cost, 0, None)
    return checked_pick(body, choices, cost, number)


def outside_of(body, choices, least):
    """For each operation of some cover the least cost of what such a cover has neither there nor below."""
    outside = {}
    roots = roots_of(body)
    add_outside(outside, least, 0, roots)
    for node in choices:
        if node in outside:
            for _, cost, wanted in choices[node]:
                add_outside(outside, least, outside[node] + cost, wanted)
    return outside


def add_outside(outside, least, cost, wanted):
    """Note what is outside of each of some nodes that are wanted together, at a cost without them."""
    if not has_all(least, wanted):
        return
    total = cost + sum_of(least, wanted)
    for want in wanted:
        told = total - least[want]
        outside[want] = min(told, outside.get(want, told))


def margins_of(body, choices):
    """A dict from the pairs of a node and a pattern that some cover has to their margins."""
    least, roots, margins = least_of(choices), roots_of(body), {}
    if not has_all(least, roots):
        return margins
    total, outside = sum_of(least, roots), outside_of(body, choices, least)
    for node in outside:
        for name, cost, wanted in choices[node]:
            if has_all(least, wanted):
                margins[(node, name)] = outside[node] + cost + sum_of(least, wanted) - total
    return margins


def margin(body, machine, node, name):
    """By how much the least cost grows with this pattern at this node; None if no cover has it."""
    choices = checked_choices(body, machine)
    check_node(choices, node)
    check_known(name, machine.names)
    return margins_of(body, choices).get((node, name), None)


def pattern_margin(body, machine, name):
    """The least margin of a pattern over all working nodes; None if it has none."""
    choices = checked_choices(body, machine)
    check_known(name, machine.names)
    margins = margins_of(body, choices)
    return min([more for at, more in margins.items() if at[1] == name], default=None)


def hurried(body, machine, *, careful=False):
    """The cover that has the first pattern that fits at each operation, or where it is stuck."""
    choices = checked_choices(body, machine)
    check_careful(careful)
    return hurried_by(body, choices, careful)


def check_careful(careful):
    """Raise InvalidArgument unless this is True or False."""
    if careful is not True and careful is not False:
        raise InvalidArgument("neither True nor False")


def hurried_by(body, choices, careful):
    """What `hurried` returns, by these choices."""
    # A pattern that is not chosen with care may want what cannot be covered.
    known = least_of(choices) if careful else choices
    cover, stuck, wanted = {}, [], list(roots_of(body))
    while wanted:
        node = wanted.pop()
        rows = [row for row in choices[node] if has_all(known, row[2])]
        if rows:
            cover[node] = rows[0][0]
            wanted.extend(rows[0][2])
        else:
            stuck.append(node)
    return ("stuck", min(stuck)) if stuck else ("cover", sorted_dict(cover))


def behind(body, machine, *, careful=False):
    """How much more the hurried cover costs than the least cost; None if it is stuck."""
    choices = checked_choices(body, machine)
    check_careful(careful)
    kind, cover = hurried_by(body, choices, careful)
    if kind == "stuck":
        return None
    return cost_of(choices, cover) - sum_of(least_of(choices), roots_of(body))
