"""Bodies and jobs whose first rounds are peeled, or that do several rounds in one."""

from loopfoundry.base.numbers import check_number
from loopfoundry.errors import InvalidArgument
from loopfoundry.jobs.jobs import Job
from loopfoundry.jobs.starts import MAX_START, check_job, check_timed
from loopfoundry.memory.flows import check_body
from loopfoundry.memory.meetings import MAX_COPIES
from loopfoundry.source.bodies import Body, with_changed_leaves

COPY_LETTERS = "abcdefghijklmnopqrstuvwx"


def copy_name(body, name, copy):
    """The name of a statement in a copy."""
    return COPY_LETTERS[body.names.index(name)] + COPY_LETTERS[copy]


def copy_operation(body, operation, copy):
    """An operation in a copy."""
    name, point, rest = operation.partition(".")
    return copy_name(body, name, copy) + point + rest


def copy_read(copy, copies, distance):
    """The pair of the copy that a copy reads, and the distance, for a distance in the body."""
    source = (copy - distance) % copies
    return (source, (distance - copy + source) // copies)


def copied_place(place, copies, number):
    """The place in a body that does so many rounds in one, from the round with this number on."""
    return (place[0] * copies, place[1] + place[0] * number)


def placed(statement, copies, number):
    """The statement with all its places so."""
    moved = with_changed_leaves(
        statement, lambda leaf: (*leaf[:2], *copied_place(leaf[2:], copies, number)) if leaf[0] == "load" else leaf
    )
    return (*moved[:3], *copied_place(moved[3:5], copies, number), moved[5]) if moved[0] == "store" else moved


def peeled(body, rounds):
    """The body that does the rounds from this one on."""
    check_body(body)
    check_number(rounds, 0, None)
    return Body.of(tuple([placed(statement, 1, rounds) for statement in body.statements]))


def unrolled(body, copies):
    """The body that does so many rounds in one."""
    check_body(body)
    check_number(copies, 1, MAX_COPIES)
    rows = [copied(body, statement, copies, copy) for copy in range(copies) for statement in body.statements]
    return Body.of(tuple(rows))


def copied(body, statement, copies, copy):
    """A statement in a copy."""
    moved = with_changed_leaves(statement, lambda leaf: copied_leaf(body, leaf, copies, copy))
    return (moved[0], copy_name(body, moved[1], copy), *placed(moved, copies, copy)[2:])


def copied_leaf(body, leaf, copies, copy):
    """An "at" in a copy; a load as it is."""
    if leaf[0] != "at":
        return leaf
    source, distance = copy_read(copy, copies, leaf[2])
    return ("at", copy_name(body, leaf[1], source), distance)


def peeled_job(job, rounds):
    """The job of the peeled body, with the same patterns."""
    check_job(job)
    return Job(peeled(job.body, rounds), job.machine, job.cover)


def unrolled_job(job, copies):
    """The job of the unrolled body, with the same patterns in each copy."""
    check_job(job)
    body = unrolled(job.body, copies)
    cover = {copy_operation(job.body, text, copy): job[text] for text in job for copy in range(copies)}
    return Job(body, job.machine, cover)


def copied_starts(job, interval, starts, copies):
    """The starts of the operations of all copies, each copy an interval behind the one before it."""
    check_timed(job, interval, starts)
    check_number(copies, 1, MAX_COPIES)
    rows = {
        copy_operation(job.body, text, copy): starts[text] + interval * copy for text in job for copy in range(copies)
    }
    if max(list(rows.values())) > MAX_START:
        raise InvalidArgument("a start gets too great")
    return {text: rows[text] for text in sorted(rows)}
