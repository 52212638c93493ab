"""Arcs of jobs whose rounds are peeled and unrolled, also where there is no such body.

A *pair* is a tuple (store, operation, ticks, place, other, is_ahead): a store and a load of its array
within the pattern of the operation, the ticks of the store, their places, and whether the store stands
ahead of the load.
"""

from math import gcd

from loopfoundry.jobs.runs import load_row
from loopfoundry.memory.flows import is_ahead
from loopfoundry.memory.meetings import Meetings
from loopfoundry.source.bodies import do_meet
from loopfoundry.wide.bodies import copied_place, copy_operation, copy_read


def kind_of(place, other):
    """The kind of a store and a load with these places."""
    if not do_meet(place, other):
        return "none"
    if place[0] == other[0]:
        return "lasting"
    return "growing" if place[0] * other[0] > 0 else "early"


def pairs_of(job, kinds):
    """The pairs of a job that are of some kinds."""
    rows = []
    for operation in job:
        for load in job.loaded(operation):
            _, array, *other = load_row(job.body, load)
            for store, stored, *place in job.body.stores:
                if stored == array and kind_of(tuple(place), tuple(other)) in kinds:
                    ahead = is_ahead(job.body, store, load)
                    rows.append((store, operation, job.ticks(store), tuple(place), tuple(other), ahead))
    return rows


def wide_operation(job, operation, copies, copy):
    """An operation in a copy, with its own name if there is only one."""
    return operation if copies == 1 else copy_operation(job.body, operation, copy)


def wide_operations(job, copies):
    """The ascending operations of all copies."""
    return sorted([wide_operation(job, text, copies, copy) for text in job for copy in range(copies)])


def operand_rows(job, copies):
    """The arcs from operands."""
    rows = []
    for text in job:
        for copy in range(copies):
            target = wide_operation(job, text, copies, copy)
            for source, distance in job.operands(text):
                other, wide_distance = copy_read(copy, copies, distance)
                rows.append((wide_operation(job, source, copies, other), target, job.ticks(source), wide_distance))
    return rows


def pair_rows(job, pairs, copies, first):
    """The arcs of some stores and loads from a round on."""
    rows = []
    for store, operation, ticks, place, other, ahead in pairs:
        here, there = copied_place(place, 1, first), copied_place(other, 1, first)
        flow = Meetings(here, there, low=0 if ahead else 1)
        anti = Meetings(there, here, low=1 if ahead else 0)
        for one, two in copies_that_meet(here, there, copies):
            source = wide_operation(job, store, copies, one)
            target = wide_operation(job, operation, copies, two)
            distance = least_distance(flow, copies, one, two)
            if distance is not None:
                rows.append((source, target, ticks, distance))
            distance = least_distance(anti, copies, two, one)
            if distance is not None:
                rows.append((target, source, 1 - ticks, distance))
    return rows


def copies_that_meet(place, other, copies):
    """The pairs of copies of two places that meet in integers, perhaps below 0."""
    divisor = gcd(place[0], other[0]) * copies
    return [
        (one, two) for one in range(copies) for two in range(copies)
        if (other[1] + other[0] * two - place[1] - place[0] * one) % divisor == 0
    ]


def least_distance(meetings, copies, one, two):
    """The least distance of two copies of meetings, or None."""
    return meetings.distance if copies == 1 else meetings.unrolled(copies, one, two).distance


def in_order(rows):
    """The ascending tuple of some arcs, each once, without those from an operation to itself in one round."""
    return tuple(sorted(set([arc for arc in rows if arc[0] != arc[1] or arc[3] != 0])))


def lasting_rows(job, copies):
    """The lasting arcs."""
    return operand_rows(job, copies) + pair_rows(job, pairs_of(job, ("lasting",)), copies, 0)


def is_endless_flow(place, other):
    """Whether a growing store and load have endlessly many flows; otherwise they have endlessly many anti."""
    return abs(place[0]) > abs(other[0])


def endless_rows(job):
    """The arcs that there are from every round on; all that counts of those that grow is their delay."""
    rows = lasting_rows(job, 1)
    for store, operation, ticks, place, other, _ in pairs_of(job, ("growing",)):
        if is_endless_flow(place, other):
            rows.append((store, operation, ticks, 1))
        else:
            rows.append((operation, store, 1 - ticks, 1))
    return in_order(rows)
