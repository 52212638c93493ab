"""Timed runs of jobs: what their readings find, and the least run in which one is wrong."""

from loopfoundry.base.numbers import check_number, is_whole
from loopfoundry.errors import InvalidArgument
from loopfoundry.jobs.jobs import ended_run
from loopfoundry.jobs.parts import hole_texts, node_below
from loopfoundry.jobs.starts import check_interval, check_job, check_timed, do_fit, is_starts
from loopfoundry.memory.flows import found_by, is_ahead, writer_within
from loopfoundry.memory.meetings import Meetings
from loopfoundry.source.bodies import MAX_ROUNDS
from loopfoundry.source.trees import path_of, text_at

# A wrong thing is a tuple (tick, operation, round, index, found).


def check_operation(job, operation):
    """Raise InvalidArgument unless this is an operation of the job."""
    if operation not in job:
        raise InvalidArgument("no operation of the job")


def due(job, operation, number):
    """What the readings of an operation find in a round of the run of the body."""
    check_job(job)
    check_operation(job, operation)
    check_number(number, 0, None)
    return due_in(job, operation, number)


def due_in(job, operation, number):
    """What the readings of an operation of the job find in a round of the run of the body."""
    operands = [(source, number - distance) for source, distance in job.operands(operation)]
    return (*operands, *[found_by(job.body, load, number) for load in job.loaded(operation)])


def found(job, interval, starts, rounds, operation, number):
    """What the readings of an operation find in a round of a timed run."""
    check_timed(job, interval, starts)
    check_number(rounds, 0, None)
    check_operation(job, operation)
    check_number(number, 0, rounds - 1)
    return found_in(job, (interval, starts, rounds), operation, number)


def found_in(job, timed, operation, number):
    """What the readings find in a round, `timed` being the interval, the starts and the rounds."""
    interval, starts, rounds = timed
    tick = starts[operation] + interval * number
    wanted = [(source, number - distance) for source, distance in job.operands(operation)]
    wanted += [cell_writer(job.body, load, number, rounds) for load in job.loaded(operation)]
    return tuple([writer if is_written(job, timed, writer, tick) else None for writer in wanted])


def cell_writer(body, load, number, rounds):
    """The pair (store, round) that stores the cell of a load of a round in a run of so many, or None."""
    _, array, step, offset = load_row(body, load)
    return writer_within(body, array, step * number + offset, rounds)


def load_row(body, load):
    """The row (load, array, step, offset) of a load of the body."""
    return [row for row in body.loads if row[0] == load][0]


def is_written(job, timed, writer, tick):
    """Whether a value or a cell, told by its writer, is written up to a tick."""
    if writer is None:
        return False
    interval, starts, _ = timed
    return starts[writer[0]] + job.ticks(writer[0]) + interval * writer[1] <= tick


def wrong_things(job, interval, starts, rounds):
    """The wrong things of a timed run, ascending."""
    check_timed(job, interval, starts)
    check_number(rounds, 0, MAX_ROUNDS)
    timed = (interval, starts, rounds)
    for tick, operation, number in begun_in(job, timed):
        told = found_in(job, timed, operation, number)
        for index, wanted in enumerate(due_in(job, operation, number)):
            if told[index] != wanted:
                yield (tick, operation, number, index, told[index])


def begun_in(job, timed):
    """The ascending (tick, operation, round) of all starts of a timed run."""
    interval, starts, rounds = timed
    rows = [(starts[text] + interval * number, text, number) for text in job.operations for number in range(rounds)]
    return sorted(rows)


def is_wrong_thing(job, interval, starts, rounds, value):
    """Whether the value is a wrong thing of a timed run of so many rounds."""
    check_timed(job, interval, starts)
    check_number(rounds, 0, None)
    if not has_form_of_thing(job, value):
        return False
    tick, operation, number, index, told = value
    if not 0 <= number < rounds or tick != starts[operation] + interval * number:
        return False
    finds = found_in(job, (interval, starts, rounds), operation, number)
    if not 0 <= index < len(finds):
        return False
    return finds[index] == told and due_in(job, operation, number)[index] != told


def has_form_of_thing(job, value):
    """Whether the value has an operation of the job, integers, and a writer or None."""
    if not isinstance(value, tuple) or len(value) != 5 or value[1] not in job:
        return False
    if not all([is_whole(part) for part in (value[0], value[2], value[3])]):
        return False
    return value[4] is None or is_writer(value[4])


def is_writer(value):
    """Whether the value is a pair of a text and a round."""
    return isinstance(value, tuple) and len(value) == 2 and isinstance(value[0], str) and is_whole(value[1])


def least_wrong(job, interval, starts):
    """The least number of rounds with a wrong thing, and the first one of that run; None if there is none."""
    check_timed(job, interval, starts)
    rows = wrong_rows(job, interval, starts)
    if not rows:
        return None
    rounds = min([row[0] for row in rows])
    # No reading has two rows for its round: a cell is stored once, and operands come ahead of loads.
    return (rounds, min([row[1] for row in rows if row[0] == rounds], key=lambda thing: thing[:4]))


def wrong_rows(job, interval, starts):
    """For each reading and each writer by which it goes wrong: the least rounds, and the first thing of that run."""
    rows = []
    for operation in job.operations:
        for index, (source, distance) in enumerate(job.operands(operation)):
            if starts[source] + job.ticks(source) - interval * distance > starts[operation]:
                rows.append((1, (starts[operation], operation, 0, index, None)))
    return rows + wrong_load_rows(job, interval, starts)


def wrong_load_rows(job, interval, starts):
    """These rows of all loads."""
    rows = []
    for operation in job.operations:
        for index, load in enumerate(job.loaded(operation), start=len(job.operands(operation))):
            for number, rounds, told in wrong_loads(job, interval, starts, operation, load):
                tick = starts[operation] + interval * number
                rows.append((rounds, (tick, operation, number, index, told)))
    return rows


def wrong_loads(job, interval, starts, operation, load):
    """For each store by which a load goes wrong: the round of the load, the least rounds, and what is found."""
    _, array, *place = load_row(job.body, load)
    rows, here = [], tuple(place)
    for store, stored, *other in job.body.stores:
        if stored == array:
            # How many ticks the writing lies behind the loading of the same round.
            late = starts[store] + job.ticks(store) - starts[operation]
            ahead = is_ahead(job.body, store, load)
            flow = Meetings(tuple(other), here, low=0 if ahead else 1, high=(late - 1) // interval)
            anti = Meetings(here, tuple(other), low=1 if ahead else 0, high=-late // interval)
            if flow:
                number = flow.soonest[1]
                rows.append((number, number + 1, None))
            if anti:
                written = anti.soonest[1]
                # A load of one cell finds it in several rounds: in the first one it is wrong first.
                number = max(0, written - anti.high) if here[0] == 0 else anti.soonest[0]
                rows.append((number, written + 1, (store, written)))
    return rows


def is_right(job, interval, value):
    """Whether the value is starts of the job that are right."""
    check_job(job)
    check_interval(interval)
    return is_starts(job, value) and do_fit(job, interval, value)


def timed_run(job, interval, starts, rounds, meaning, first, contents):
    """The values of the operations, and the stored cells, of a timed run."""
    check_timed(job, interval, starts)
    check_number(rounds, 0, MAX_ROUNDS)
    timed, done = (interval, starts, rounds), {}
    for _, operation, number in begun_in(job, timed):
        known = known_in(job, timed, operation, number, (done, first, contents))
        done[(operation, number)] = value_by(job.body, operation, known, meaning)
    values = {text: [done[(text, number)] for number in range(rounds)] for text in job.valued}
    cells = {}
    for store, array, step, offset in job.body.stores:
        for number in range(rounds):
            cells[(array, step * number + offset)] = done[(store, number)]
    return ended_run(values, cells)


def known_in(job, timed, operation, number, told):
    """A dict from the texts of what stands in the holes, and of the loads, to their values in a round."""
    done, first, contents = told
    finds, pattern = found_in(job, timed, operation, number), job.machine.pattern(job[operation])
    known = {}
    for text, writer in zip(hole_texts(operation, pattern), finds):
        # A value that is not written yet is None; one of a round below 0 is a first value.
        if writer is not None and writer[1] < 0:
            known[text] = first(writer[0], writer[1])
        else:
            known[text] = None if writer is None else done[writer]
    for load, writer in zip(job.loaded(operation), finds[len(known):]):
        _, array, step, offset = load_row(job.body, load)
        known[load] = contents(array, step * number + offset) if writer is None else done[writer]
    return known


def value_by(body, text, known, meaning):
    """The value at a node, by known values of all nodes at which its tree is cut."""
    if text in known:
        return known[text]
    name, path = path_of(text)
    node = node_below(body[name], path)
    if node[0] == "store":
        return value_by(body, text_at(name, (0,)), known, meaning)
    below = [text_at(name, path + (index,)) for index in range(len(node) - 2)]
    return meaning(node[1], tuple([value_by(body, part, known, meaning) for part in below]))
