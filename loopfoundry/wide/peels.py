"""How many rounds must be peeled, so that an interval is free, or so that only the lasting arcs count.

A *task* is a tuple (job, copies, ratio): what no ring of the wide arcs may ask for more than 0 with.
"""

from loopfoundry.base.numbers import check_number, is_whole
from loopfoundry.jobs.starts import check_job
from loopfoundry.memory.meetings import Meetings
from loopfoundry.wide.arcs import endless_rows, in_order, is_endless_flow, kind_of, lasting_rows, pair_rows, pairs_of
from loopfoundry.wide.arcs import wide_operations
from loopfoundry.wide.free import MAX_WIDE_COPIES, are_free_starts, arcs_from, check_wide_interval, check_width
from loopfoundry.wide.free import do_leave
from loopfoundry.wide.rings import asked_by_ring, is_gaining_ring, is_ring, ratio_and_ring, ring_or_heights

MAX_DELAY = 4
# By far more rounds than ever must be peeled, with places of thirty digits.
LONGEST = 10 ** 33 * 10 ** 33


def check_peeled(job, interval, copies):
    """Raise an error unless these are a job, an interval and a number of copies."""
    check_job(job)
    check_wide_interval(interval)
    check_number(copies, 1, MAX_WIDE_COPIES)
    check_width(job, copies)


def peel_paper(job, interval, *, copies=1):
    """The least number of rounds to peel, so that the interval is free, or a ring that is never."""
    check_peeled(job, interval, copies)
    ring, _ = ring_or_heights(wide_operations(job, copies), in_order(lasting_rows(job, copies)), (interval, 1))
    if ring is not None:
        return ("never", ring)
    return ("peel", *least_peel((job, copies, (interval, 1))))


def least_peel(task):
    """The least number of rounds to peel, the heights from there on, and a ring from one round earlier on, or None.

    No ring of what there is from every round on may ask for more than 0.
    """
    job, copies, told = task
    operations, lasting = wide_operations(job, copies), lasting_rows(job, copies)
    pairs = pairs_of(job, ("growing", "early"))
    before, heights = ring_or_heights(operations, in_order(lasting + pair_rows(job, pairs, copies, 0)), told)
    if before is None:
        return (0, heights, None)
    least, most = 0, last_round(task, pairs)
    while most - least > 1 or heights is None:
        middle = max(least + 1, (least + most) // 2)
        ring, found = ring_or_heights(operations, in_order(lasting + pair_rows(job, pairs, copies, middle)), told)
        if ring is None:
            most, heights = middle, found
        else:
            least, before = middle, ring
    return (most, heights, before)


def last_round(task, pairs):
    """A round from which on no store and load that are not lasting are in a ring that asks for more than 0."""
    job, copies, (asked, times) = task
    # With a greater distance an arc asks for less than all other arcs of a ring can ask for.
    high = None if asked == 0 else copies * (MAX_DELAY * len(job) * copies * times // asked + 1)
    rounds = 1
    for _, _, _, place, other, ahead in pairs:
        endless = high is None and kind_of(place, other) == "growing"
        if not endless or not is_endless_flow(place, other):
            rounds = max(rounds, round_behind(Meetings(place, other, low=0 if ahead else 1, high=high)))
        if not endless or is_endless_flow(place, other):
            rounds = max(rounds, round_behind(Meetings(other, place, low=1 if ahead else 0, high=high)))
    return rounds


def round_behind(meetings):
    """The round behind all earlier rounds of some meetings."""
    return 0 if meetings.latest is None else meetings.latest[0] + 1


def is_peel_paper(job, interval, value, *, copies=1):
    """Whether the value is such a paper."""
    check_peeled(job, interval, copies)
    if not isinstance(value, tuple) or len(value) < 2:
        return False
    if value[0] == "never":
        return len(value) == 2 and is_gaining_ring(in_order(lasting_rows(job, copies)), (interval, 1), value[1])
    if value[0] != "peel" or len(value) != 4 or not is_peeling((job, copies, (interval, 1)), value[1], value[3]):
        return False
    return are_free_starts(wide_operations(job, copies), arcs_from(job, copies, value[1]), interval, value[2])


def is_peeling(task, rounds, before):
    """Whether this is a number of rounds, and this a ring from one round earlier on that asks for more than 0."""
    job, copies, told = task
    if not is_whole(rounds) or not 0 <= rounds < LONGEST:
        return False
    if rounds == 0:
        return before is None
    return is_gaining_ring(arcs_from(job, copies, rounds - 1), told, before)


def ratio_paper(job):
    """The least number of rounds to peel, so that the ratio is that of the lasting arcs, or an endless ring."""
    check_job(job)
    operations = wide_operations(job, 1)
    told, critical = ratio_and_ring(operations, in_order(lasting_rows(job, 1)))
    if critical is None:
        ring, _ = ring_or_heights(operations, endless_rows(job), told)
        if ring is not None:
            return ("endless", ring)
    rounds, heights, before = least_peel((job, 1, told))
    return ("peel", rounds, critical, heights, before)


def is_ratio_paper(job, value):
    """Whether the value is such a paper."""
    check_job(job)
    if not isinstance(value, tuple) or len(value) < 2:
        return False
    told, _ = ratio_and_ring(wide_operations(job, 1), in_order(lasting_rows(job, 1)))
    if value[0] == "endless":
        return len(value) == 2 and told[0] == 0 and is_gaining_ring(endless_rows(job), told, value[1])
    if value[0] != "peel" or len(value) != 5 or not is_peeling((job, 1, told), value[1], value[4]):
        return False
    if not is_critical(job, told, value[2]) or not has_heights(job, value[3]):
        return False
    return do_leave(arcs_from(job, 1, value[1]), told, value[3])


def is_critical(job, told, value):
    """Whether the value is a ring of lasting arcs that asks for just 0; None for the ratio 0."""
    if told[0] == 0:
        return value is None
    arcs = in_order(lasting_rows(job, 1))
    return is_ring(arcs, value) and asked_by_ring(arcs, value, told) == 0


def has_heights(job, value):
    """Whether the value is a dict from just the operations to integers."""
    if not isinstance(value, dict) or len(value) != len(job):
        return False
    return all([text in value and is_whole(value[text]) for text in job])
