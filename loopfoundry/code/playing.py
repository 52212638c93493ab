"""Runs of kernels, played pass by pass and tick by tick.

Registers and save cells hold None or a pair (operation, round). The *rows* of a run are tuples
(tick, operation, round, held, loaded): what the registers of the operands hold, and for each load the
triple of its array, its cell, and who wrote this cell last, or None.
"""

from loopfoundry.code.instructions import loads_of, stores_of
from loopfoundry.jobs.parts import hole_texts
from loopfoundry.jobs.runs import value_by

# First values are written from the round -3 on: what moves carried ahead of this pass is nothing.
FIRST_ROUND = -3
FIRST_PASS = -8


def run_of(kernel, rounds):
    """The pair of the rows of a run, ascending by their ticks, and of the dict from cells to who wrote them last."""
    told = parts_told(kernel)
    held = ([None] * kernel.registers, [None] * kernel.cells, {})
    rows, due = [], {}
    for number in range(FIRST_PASS, rounds + kernel.stages - 1):
        for slot, row in enumerate(kernel.rows):
            tick = slot + kernel.interval * number
            do_writing(held, due.pop(tick, []))
            for instruction in row:
                if instruction[0] == "op":
                    start_operation(told[instruction[1]], instruction, (tick, number, rounds), held, (rows, due))
                else:
                    start_move(kernel, instruction, (tick, number), held, due)
    for tick in sorted(due):
        do_writing(held, due[tick])
    return (rows, held[2])


def parts_told(kernel):
    """A dict from the operations to what a run needs of them: ticks, loads, store, and their first round."""
    job, stores = kernel.job, stores_of(kernel.job)
    return {
        text: (job.ticks(text), loads_of(job, text), stores.get(text, None), first_round(job, text))
        for text in job.operations
    }


def first_round(job, operation):
    """The first round in which an operation writes: the roots of "set" statements write first values, too."""
    return FIRST_ROUND if operation in job.body.scalars else 0


def do_writing(held, rows):
    """Do what is written in a tick: of two the one that started later comes later."""
    for kind, place, what in rows:
        held[kind][place] = what


def start_operation(told, instruction, moment, held, done):
    """Start an operation in a pass: read, and tell what will be written, if its round is done."""
    _, operation, stage, target, sources, offsets = instruction
    ticks, loads, store, first = told
    tick, number, rounds = moment
    rows, due = done
    here, around = number - stage, len(held[0])
    if not first <= here < rounds:
        return
    if here >= 0:
        cells = [(load[0], load[1] * number + offset) for load, offset in zip(loads, offsets)]
        loaded = [(*cell, held[2].get(cell, None)) for cell in cells]
        rows.append((tick, operation, here, [held[0][(source + number) % around] for source in sources], loaded))
    if store is None:
        writing = (0, (target + number) % around, (operation, here))
    else:
        writing = (2, (store[0], store[1] * number + offsets[-1]), (operation, here))
    due.setdefault(tick + ticks, []).append(writing)


def start_move(kernel, instruction, moment, held, due):
    """Start a move in a pass: read, and tell what will be written."""
    tick, number = moment
    kind, one, other = instruction
    if kind == "save":
        what = held[0][(one + number) % kernel.registers]
        due.setdefault(tick + kernel.job.machine.save[0], []).append((1, (other + number) % kernel.cells, what))
    else:
        what = held[1][(one + number) % kernel.cells]
        due.setdefault(tick + kernel.job.machine.reload[0], []).append((0, (other + number) % kernel.registers, what))


def values_of_run(kernel, rounds, meaning, first, contents):
    """The pair of the values of the operations, and of the stored cells, of a run."""
    job, values = kernel.job, {}
    rows, memory = run_of(kernel, rounds)
    for _, operation, number, held, loaded in rows:
        known = {}
        for text, writer in zip(hole_texts(operation, job.machine.pattern(job[operation])), held):
            # A register that holds nothing, or a first value, tells of no operation that was done.
            if writer is not None and writer[1] < 0:
                known[text] = first(writer[0], writer[1])
            else:
                known[text] = None if writer is None else values[writer]
        for text, (array, cell, writer) in zip(job.loaded(operation), loaded):
            known[text] = contents(array, cell) if writer is None else values[writer]
        values[(operation, number)] = value_by(job.body, operation, known, meaning)
    scalars = {text: tuple([values[(text, number)] for number in range(rounds)]) for text in job.valued}
    return (scalars, {cell: values[memory[cell]] for cell in sorted(memory)})
