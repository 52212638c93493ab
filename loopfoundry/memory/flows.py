"""What the loads of a body find, and how far away stores and loads meet."""

from loopfoundry.base.numbers import check_integer, check_known, check_number
from loopfoundry.errors import InvalidArgument, InvalidBody
from loopfoundry.memory.meetings import Meetings
from loopfoundry.source.bodies import Body
from loopfoundry.source.trees import path_of


def check_body(body):
    """Raise InvalidBody unless this is a body."""
    if not isinstance(body, Body):
        raise InvalidBody("no body")


def check_rounds(rounds):
    """Raise InvalidNumber unless this is a number of rounds, or None for any number."""
    if rounds is not None:
        check_number(rounds, 0, None)


def is_ahead(body, store, load):
    """Whether a store stands ahead of a load, which stands ahead of the store of its own statement."""
    return body.names.index(store) < body.names.index(path_of(load)[0])


def meetings_of(body, first, rounds):
    """The rows (kind, store, load, meetings) for each store and each load of its array."""
    rows = []
    for store, array, *place in body.stores:
        for load, other_array, *other in body.loads:
            if array == other_array:
                here, there = tuple(place), tuple(other)
                ahead = is_ahead(body, store, load)
                flow = Meetings(here, there, low=0 if ahead else 1, first=first, rounds=rounds)
                anti = Meetings(there, here, low=1 if ahead else 0, first=first, rounds=rounds)
                rows.extend([("flow", store, load, flow), ("anti", store, load, anti)])
    return rows


def flows(body, *, first=0, rounds=None):
    """The ascending (kind, store, load, least distance) of all stores and loads that meet."""
    check_body(body)
    check_number(first, 0, None)
    check_rounds(rounds)
    rows = meetings_of(body, first, rounds)
    return tuple(sorted([(kind, store, load, met.distance) for kind, store, load, met in rows if met]))


def settled(body):
    """The least number of rounds from which on the flows are those of all runs."""
    check_body(body)
    # The nearest pair is the first one of its distance: all rounds up to its later one are needed.
    return max([met.nearest[1] + 1 for _, _, _, met in meetings_of(body, 0, None) if met], default=0)


def writer_of(body, array, cell, *, rounds=None):
    """The pair (store, round) that stores a cell in a run of so many rounds, or None."""
    check_body(body)
    check_known(array, body.arrays)
    check_integer(cell)
    check_rounds(rounds)
    return writer_within(body, array, cell, rounds)


def writer_within(body, array, cell, rounds):
    """The pair (store, round) that stores a cell of any size, or None."""
    for store, stored, step, offset in body.stores:
        if stored == array and (cell - offset) % step == 0:
            number = (cell - offset) // step
            if number >= 0 and (rounds is None or number < rounds):
                return (store, number)
    return None


def found_by(body, load, number):
    """The pair (store, round) that a load finds in a round, or None for the contents."""
    check_body(body)
    rows = [row for row in body.loads if row[0] == load]
    if not rows:
        raise InvalidArgument("no load of the body")
    check_number(number, 0, None)
    _, array, step, offset = rows[0]
    writer = writer_within(body, array, step * number + offset, number + 1)
    if writer is None or (writer[1] == number and not is_ahead(body, writer[0], load)):
        return None
    return writer
