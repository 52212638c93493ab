"""Plans: starts that fit, by which no slot asks for more units than there are."""

from loopfoundry.base.numbers import check_number
from loopfoundry.errors import InvalidArgument
from loopfoundry.jobs.starts import check_interval, check_job, check_starts, check_timed, do_fit, is_kept, is_starts

# Operations so far apart never wait for one another, and never ask for a unit in one tick.
ROOM = 4


def asked(job, interval, starts):
    """How often operations ask for each pair (unit, slot)."""
    check_timed(job, interval, starts)
    return asked_by(job, interval, starts)


def asked_by(job, interval, starts):
    """How often the operations of a job ask for each pair (unit, slot)."""
    counts = {}
    for text in job.operations:
        for unit, offset in job.uses(text):
            at = (unit, (starts[text] + offset) % interval)
            counts[at] = counts.get(at, 0) + 1
    return {at: counts[at] for at in sorted(counts)}


def spare(job, interval, starts):
    """How often each unit of the machine is left at each slot."""
    check_timed(job, interval, starts)
    return left_by(job, interval, starts)


def left_by(job, interval, starts):
    """How often the starts of a job leave each unit of its machine at each slot."""
    counts, units = asked_by(job, interval, starts), job.machine.units
    return {
        (unit, slot): units[unit] - counts.get((unit, slot), 0) for unit in sorted(units) for slot in range(interval)
    }


def overasked(job, interval, starts):
    """The ascending pairs (unit, slot) that are asked for too often."""
    counts, units = asked_by(job, interval, starts), job.machine.units
    return [at for at in counts if counts[at] > units[at[0]]]


def is_plan(job, interval, value):
    """Whether the value is starts of the job that are a plan."""
    check_job(job)
    check_interval(interval)
    return is_planned(job, interval, value)


def is_planned(job, interval, value):
    """Whether the value is a plan of a job with an interval."""
    return is_starts(job, value) and do_fit(job, interval, value) and not overasked(job, interval, value)


def faults(job, interval, starts):
    """What keeps starts from being a plan: arcs, then units, both ascending."""
    check_timed(job, interval, starts)
    arcs = [("arc", arc) for arc in job.arcs if not is_kept(arc, interval, starts)]
    return (*arcs, *[("unit", unit, slot) for unit, slot in overasked(job, interval, starts)])


def length(job, starts):
    """The greatest end of an operation of round 0 less the least start."""
    check_job(job)
    check_starts(job, starts)
    return span(job, starts)


def span(job, starts):
    """The length of starts of a job."""
    return max([starts[text] + job.ticks(text) for text in job.operations]) - min(list(starts.values()))


def duration(job, interval, starts, rounds):
    """The ticks in which a plan does so many rounds."""
    check_timed(job, interval, starts)
    check_number(rounds, 1, None)
    return interval * (rounds - 1) + span(job, starts)


def earliest(job, interval, starts):
    """The starts with the same slots that fit, each as early as it can be."""
    check_timed(job, interval, starts)
    if not do_fit(job, interval, starts):
        raise InvalidArgument("the starts do not fit")
    return raised(job.arcs, interval, {text: starts[text] % interval for text in job.operations}, starts)


def raised(arcs, interval, least, slotted):
    """The least starts from these on that fit the arcs; those of the slotted operations keep their slots."""
    starts = dict(least)
    is_moving = True
    while is_moving:
        is_moving = False
        for source, target, delay, distance in arcs:
            lack = starts[source] + delay - interval * distance - starts[target]
            if lack > 0:
                starts[target] += lack + (-lack % interval if target in slotted else 0)
                is_moving = True
    return starts


def straight(job, interval):
    """A plan that has the operations one after another, four ticks apart."""
    check_job(job)
    check_interval(interval)
    if interval < ROOM * len(job):
        raise InvalidArgument("the interval is too short")
    starts, waiting = {}, list(job.operations)
    while waiting:
        late = [target for source, target, _, distance in job.arcs if distance == 0 and source in waiting]
        text = [node for node in waiting if node not in late][0]
        starts[text] = ROOM * len(starts)
        waiting.remove(text)
    return {text: starts[text] for text in job.operations}
