"""Intervals that the arcs of peeled and unrolled jobs leave free."""

from loopfoundry.base.numbers import check_number, is_between
from loopfoundry.errors import InvalidArgument, TooMany
from loopfoundry.jobs.starts import MAX_START, check_job
from loopfoundry.memory.meetings import is_place
from loopfoundry.wide.arcs import in_order, kind_of, lasting_rows, operand_rows, pair_rows, pairs_of, wide_operations
from loopfoundry.wide.rings import is_gaining_ring, ratio_and_ring, ring_or_heights

MAX_WIDE = 32
MAX_WIDE_INTERVAL = 1000
MAX_WIDE_COPIES = 16


def check_wide_interval(interval):
    """Raise InvalidNumber unless this is an integer from 1 to 1000."""
    check_number(interval, 1, MAX_WIDE_INTERVAL)


def check_width(job, copies):
    """Raise TooMany if there are too many operations in all copies."""
    if len(job) * copies > MAX_WIDE:
        raise TooMany(MAX_WIDE)


def check_copied(job, copies, first):
    """Raise an error unless these are a number of copies, a round, and not too many operations."""
    check_number(copies, 1, MAX_WIDE_COPIES)
    check_number(first, 0, None)
    check_width(job, copies)


def meeting_kind(store, load):
    """Whether a store and a load meet never, lasting, growing or early."""
    if not is_place(store) or store[0] == 0 or not is_place(load):
        raise InvalidArgument("no place of a store, or no place")
    return kind_of(store, load)


def wide_arcs(job, *, copies=1, first=0):
    """The ascending arcs of so many copies from a round on."""
    check_job(job)
    check_copied(job, copies, first)
    return arcs_from(job, copies, first)


def arcs_from(job, copies, first):
    """The ascending arcs of so many copies of a job from a round on."""
    pairs = pairs_of(job, ("lasting", "growing", "early"))
    return in_order(operand_rows(job, copies) + pair_rows(job, pairs, copies, first))


def lasting_arcs(job, *, copies=1):
    """The ascending arcs of so many copies that there are from every round on, with the same distances."""
    check_job(job)
    check_copied(job, copies, 0)
    return in_order(lasting_rows(job, copies))


def free_paper(job, interval, *, copies=1, first=0):
    """Starts that fit the wide arcs, or a ring that asks for too much."""
    check_job(job)
    check_wide_interval(interval)
    check_copied(job, copies, first)
    operations = wide_operations(job, copies)
    ring, starts = ring_or_heights(operations, arcs_from(job, copies, first), (interval, 1))
    return ("starts", starts) if ring is None else ("ring", ring)


def is_free_paper(job, interval, value, *, copies=1, first=0):
    """Whether the value is such a paper."""
    check_job(job)
    check_wide_interval(interval)
    check_copied(job, copies, first)
    if not isinstance(value, tuple) or len(value) != 2:
        return False
    arcs = arcs_from(job, copies, first)
    if value[0] == "starts":
        return are_free_starts(wide_operations(job, copies), arcs, interval, value[1])
    return value[0] == "ring" and is_gaining_ring(arcs, (interval, 1), value[1])


def are_free_starts(operations, arcs, interval, value):
    """Whether the value is starts of just these operations that fit the arcs."""
    if not isinstance(value, dict) or len(value) != len(operations):
        return False
    if not all([text in value and is_between(value[text], 0, MAX_START) for text in operations]):
        return False
    return do_leave(arcs, (interval, 1), value)


def do_leave(arcs, told, heights):
    """Whether the target of each arc is higher than its source by at least what the arc asks for with a ratio."""
    return all([
        heights[target] - heights[source] >= delay * told[1] - told[0] * distance
        for source, target, delay, distance in arcs
    ])


def free_interval(job, *, copies=1, first=0):
    """The least interval with starts that fit the wide arcs."""
    check_job(job)
    check_copied(job, copies, first)
    (most, least), _ = ratio_and_ring(wide_operations(job, copies), arcs_from(job, copies, first))
    return max(1, -(-most // least))


def ratio(job, *, first=0):
    """The ratio of the arcs of a job from a round on."""
    check_job(job)
    check_number(first, 0, None)
    return ratio_and_ring(wide_operations(job, 1), arcs_from(job, 1, first))[0]


def lasting_ratio(job):
    """The ratio of the lasting arcs of a job."""
    check_job(job)
    return ratio_and_ring(wide_operations(job, 1), in_order(lasting_rows(job, 1)))[0]
