"""Orders of the statements of a body in which all loads find the same."""

from loopfoundry.base.numbers import is_between
from loopfoundry.errors import InvalidArgument, InvalidBody, TooMany
from loopfoundry.memory.flows import check_body
from loopfoundry.memory.meetings import Meetings
from loopfoundry.source.bodies import Body
from loopfoundry.source.trees import path_of

MAX_ORDERED = 12


def bound(body):
    """The ascending pairs of the names of bound statements, the one that stands ahead first."""
    check_body(body)
    return bound_pairs(body)


def bound_pairs(body):
    """The ascending pairs of the names of bound statements of a body."""
    rows = [(reader, name) for reader, name, distance in body.reads if distance == 0]
    for store, array, *place in body.stores:
        for load, other_array, *other in body.loads:
            if array == other_array and do_meet_in_a_round(tuple(place), tuple(other)):
                rows.append((store, path_of(load)[0]))
    ordered = [(one, other) if is_before(body.names, one, other) else (other, one) for one, other in rows]
    return tuple(sorted(set([pair for pair in ordered if pair[0] != pair[1]])))


def do_meet_in_a_round(place, other):
    """Whether two places have the same cell in some round."""
    return bool(Meetings(place, other, high=0))


def is_before(names, one, other):
    """Whether a name stands ahead of another one."""
    return names.index(one) < names.index(other)


def check_order(body, names):
    """Raise an error unless the names are an order in which the statements are a body."""
    check_body(body)
    if not isinstance(names, tuple) or len(names) != len(body) or not all([name in names for name in body.names]):
        raise InvalidArgument("not just the names of the statements")
    for reader, name, distance in body.reads:
        if distance == 0 and not is_before(names, name, reader):
            raise InvalidBody("a statement is read ahead of its place")


def reordered(body, names):
    """The body with its statements in this order."""
    check_order(body, names)
    return Body.of(tuple([body[name] for name in names]))


def order_paper(body, names):
    """A paper that shows that the loads find the same in this order, or that they do not."""
    check_order(body, names)
    for one, other in bound_pairs(body):
        if is_before(names, other, one):
            return ("bound", one, other)
    return ("exchanges", tuple(exchanges_to(body.names, names)))


def exchanges_to(names, wanted):
    """The exchanges of neighbours that lead to the wanted order; each pair is exchanged at most once."""
    rows, exchanges = list(names), []
    for place, name in enumerate(wanted):
        at = rows.index(name)
        exchanges.extend(list(reversed(range(place, at))))
        rows.insert(place, rows.pop(at))
    return exchanges


def is_order_paper(body, names, value):
    """Whether the value is such a paper."""
    check_order(body, names)
    if not isinstance(value, tuple) or len(value) < 2:
        return False
    if value[0] == "bound" and len(value) == 3:
        return value[1:] in bound_pairs(body) and is_before(names, value[2], value[1])
    if value[0] != "exchanges" or len(value) != 2 or not isinstance(value[1], tuple):
        return False
    return do_lead(body, names, value[1])


def do_lead(body, names, exchanges):
    """Whether exchanges of neighbours that are not bound lead from the order of the body to the names."""
    pairs, rows = bound_pairs(body), list(body.names)
    for at in exchanges:
        if not is_between(at, 0, len(rows) - 2):
            return False
        one, other = rows[at:at + 2]
        if (one, other) in pairs or (other, one) in pairs:
            return False
        rows[at:at + 2] = [other, one]
    return tuple(rows) == names


def check_ordered(body):
    """Raise an error unless this is a body of so few statements that orders are counted."""
    check_body(body)
    if len(body) > MAX_ORDERED:
        raise TooMany(MAX_ORDERED)


def how_many_orders(body):
    """The number of orders in which all loads find the same."""
    check_ordered(body)
    pairs, counts = bound_pairs(body), {(): 1}
    for _ in body.names:
        counts = longer_counts(pairs, body.names, counts)
    return sum(list(counts.values()))


def longer_counts(pairs, names, counts):
    """How often each ascending tuple of one name more comes first, by how often those of fewer names do."""
    longer = {}
    for before, many in counts.items():
        for name in free_names(pairs, names, before):
            names_now = tuple(sorted([*before, name]))
            longer[names_now] = longer.get(names_now, 0) + many
    return longer


def free_names(pairs, names, before):
    """The ascending names that can come behind these: all that they are bound to stand behind is there."""
    waiting = [other for one, other in pairs if one not in before]
    return [name for name in sorted(names) if name not in before and name not in waiting]


def each_order(body):
    """All orders in which all loads find the same, as tuples of names, ascending."""
    check_ordered(body)
    pairs, names = bound_pairs(body), body.names
    order = first_behind(pairs, names, [])
    while order is not None:
        yield tuple(order)
        order = next_order(pairs, names, order)


def first_behind(pairs, names, before):
    """The first order that begins with these names."""
    order = list(before)
    while len(order) < len(names):
        order.append(free_names(pairs, names, order)[0])
    return order


def next_order(pairs, names, order):
    """The order behind another one, or None."""
    for place in reversed(range(len(order))):
        before = order[:place]
        greater = [name for name in free_names(pairs, names, before) if name > order[place]]
        if greater:
            return first_behind(pairs, names, [*before, greater[0]])
    return None


def first_order(body):
    """The first order in which all loads find the same."""
    check_ordered(body)
    return tuple(first_behind(bound_pairs(body), body.names, []))
