"""Least costs by intervals: the frontier, and its papers."""

from loopfoundry.base.numbers import MAX_INTERVAL, is_between
from loopfoundry.covers.boards import check_world, choices_of, cost_of, has_all, least_of, roots_of, sum_of
from loopfoundry.search.fields import Field
from loopfoundry.search.judging import is_bar
from loopfoundry.search.limits import check_asked, check_most, check_sizes
from loopfoundry.search.solving import search
from loopfoundry.search.ways import paper_by, way_cost


def least_cost(body, machine, interval):
    """The least cost of a cover that has a plan with this interval, or None."""
    check_asked(body, machine, interval, None)
    check_sizes(body, machine)
    paper, _ = cheapest_way(Field(body, machine, interval), body, machine, None)
    return None if paper is None else paper_cost(body, machine, paper)


def paper_cost(body, machine, paper):
    """The cost of the cover of a way."""
    return cost_of(choices_of(body, machine), paper[1])


def cheapest_way(field, body, machine, most):
    """The paper of a way of the least cost, and the tree of a bar for any lesser cost: None if there is none."""
    best, tree = None, None
    while tree is None and (best is None or most >= 0):
        paper = paper_by(field, body, machine, most)
        if paper[0] == "bar":
            tree = paper[1]
        else:
            best, most = paper, paper_cost(body, machine, paper) - 1
    return (best, tree)


def least_interval(body, machine, *, most=None):
    """The least interval with a cover of at most this cost that has a plan, or None."""
    check_world(body, machine)
    check_most(most)
    check_sizes(body, machine)
    if Field(body, machine, 1).is_above({}, most):
        return None
    # With four times the number of operations each cover has a plan.
    interval = 1
    while search(Field(body, machine, interval), most)[0] is None:
        interval += 1
    return interval


def frontier(body, machine):
    """The pairs of the intervals whose least cost is less than that of each lesser one, and of these costs."""
    check_world(body, machine)
    check_sizes(body, machine)
    return tuple([row[:2] for row in frontier_rows(body, machine)])


def frontier_rows(body, machine):
    """The rows of the paper of a frontier, none if the body has no cover."""
    last = cover_least(body, machine)
    rows, bars, most, interval = [], [], None, 1
    while last is not None and (most is None or most >= last):
        paper, tree = cheapest_way(Field(body, machine, interval), body, machine, most)
        if tree is not None:
            bars.append(tree)
        if paper is not None:
            cost = paper_cost(body, machine, paper)
            rows.append((interval, cost, paper[1], paper[2], tuple(bars)))
            bars, most = [], cost - 1
        interval += 1
    return rows


def cover_least(body, machine):
    """The least cost of a cover, or None."""
    least, roots = least_of(choices_of(body, machine)), roots_of(body)
    return sum_of(least, roots) if has_all(least, roots) else None


def frontier_paper(body, machine):
    """A paper for the frontier."""
    check_world(body, machine)
    check_sizes(body, machine)
    rows = frontier_rows(body, machine)
    return ("frontier", tuple(rows)) if rows else paper_by(Field(body, machine, 1), body, machine, None)


def is_frontier_paper(body, machine, value):
    """Whether the value is such a paper."""
    check_world(body, machine)
    if not isinstance(value, tuple) or len(value) != 2:
        return False
    last = cover_least(body, machine)
    if value[0] == "bar":
        return last is None and is_bar(Field(body, machine, 1), None, value[1])
    if value[0] != "frontier" or last is None or not has_form_of_rows(value[1]) or value[1][-1][1] != last:
        return False
    most, begin = None, 1
    for row in value[1]:
        if not is_right_row(body, machine, row, most, begin):
            return False
        most, begin = row[1] - 1, row[0] + 1
    return True


def has_form_of_rows(rows):
    """Whether these are rows whose intervals ascend, and whose costs fall."""
    if not isinstance(rows, tuple) or len(rows) == 0:
        return False
    if not all([isinstance(row, tuple) and len(row) == 5 for row in rows]):
        return False
    if not all([is_between(row[0], 1, MAX_INTERVAL) and is_between(row[1], 0, None) for row in rows]):
        return False
    return all([one[0] < other[0] and one[1] > other[1] for one, other in zip(rows, rows[1:])])


def is_right_row(body, machine, row, most, begin):
    """Whether a row has its way, and bars from an interval on, with the greatest cost ahead of it."""
    interval, cost, cover, starts, bars = row
    if way_cost(Field(body, machine, interval), body, machine, (cover, starts)) != cost:
        return False
    wanted = [(lesser, most) for lesser in range(begin, interval)]
    wanted += [(interval, cost - 1)] if cost > 0 else []
    if not isinstance(bars, tuple) or len(bars) != len(wanted):
        return False
    return all([is_bar(Field(body, machine, at[0]), at[1], tree) for at, tree in zip(wanted, bars)])
