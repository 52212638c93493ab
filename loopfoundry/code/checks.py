"""Checks of kernels: what their runs find, and the least run in which they are wrong.

A wrong finding is a tuple (tick, operation, round, index, found).
"""

from loopfoundry.base.numbers import check_known, check_number, is_whole
from loopfoundry.code.instructions import places_of
from loopfoundry.code.kernels import MAX_TOLD, Kernel
from loopfoundry.code.playing import run_of
from loopfoundry.code.tracing import Tracer
from loopfoundry.errors import InvalidKernel
from loopfoundry.jobs.parts import memory_arcs, parts_of
from loopfoundry.jobs.runs import due_in, is_writer, wrong_load_rows
from loopfoundry.jobs.starts import is_kept
from loopfoundry.memory.flows import flows


def check_kernel(kernel):
    """Raise InvalidKernel unless this is a kernel."""
    if not isinstance(kernel, Kernel):
        raise InvalidKernel("no kernel")


def findings(kernel, rounds, operation, number):
    """What the readings of an operation find in a round of a run."""
    check_kernel(kernel)
    check_number(rounds, 0, None)
    check_known(operation, kernel.job.operations)
    check_number(number, 0, rounds - 1)
    return findings_in(kernel, rounds, operation, number)


def findings_in(kernel, rounds, operation, number):
    """What the readings of an operation find in a round of a run: operands, loads, and the cell of a store."""
    _, _, stage, _, sources, offsets = kernel[operation]
    tick, here = kernel.starts[operation] + kernel.interval * number, number + stage
    tracer = Tracer(kernel, rounds)
    rows = [tracer.maker(source, here, tick) for source in sources]
    places = places_of(kernel.job, operation)
    for index, (array, step, offset) in enumerate(places):
        cell = step * here + offsets[index]
        is_own = operation not in kernel.job.valued and index == len(places) - 1
        is_right = cell == step * number + offset
        rows.append(cell_maker(kernel, rounds, (array, cell), tick) if is_right and not is_own else cell)
    return tuple(rows)


def cell_maker(kernel, rounds, at, tick):
    """The pair (store, round) that wrote a cell of an array last up to a tick of a run, or None."""
    best = None
    for store, array, step, _ in kernel.job.body.stores:
        offset = kernel[store][5][-1]
        if array == at[0] and (at[1] - offset) % step == 0:
            number = (at[1] - offset) // step - kernel[store][2]
            start = kernel.starts[store] + kernel.interval * number
            writing = (start + kernel.job.ticks(store), start, place_in_row(kernel, store))
            if 0 <= number < rounds and writing[0] <= tick and (best is None or writing > best[0]):
                best = (writing, (store, number))
    return None if best is None else best[1]


def place_in_row(kernel, operation):
    """The place of the instruction of an operation in its row."""
    return kernel.rows[kernel.starts[operation] % kernel.interval].index(kernel[operation])


def due_findings(kernel, operation, number):
    """What the readings of an operation find in the run of the body, and the cell of a store."""
    rows = due_in(kernel.job, operation, number)
    if operation in kernel.job.valued:
        return rows
    _, step, offset = places_of(kernel.job, operation)[-1]
    return (*rows, step * number + offset)


def wrong_findings(kernel, rounds):
    """All wrong findings of a run, ascending."""
    check_kernel(kernel)
    check_number(rounds, 0, MAX_TOLD)
    for row in wrong_in(kernel, rounds):
        yield row


def wrong_in(kernel, rounds):
    """The ascending wrong findings of a run that is played."""
    rows = []
    for tick, operation, number, held, loaded in run_of(kernel, rounds)[0]:
        wanted = due_findings(kernel, operation, number)
        told = [*held, *read_cells(kernel, operation, number, loaded)]
        rows.extend([
            (tick, operation, number, index, one) for index, one in enumerate(told) if one != wanted[index]
        ])
    return sorted(rows, key=lambda row: row[:4])


def read_cells(kernel, operation, number, loaded):
    """What the loads find, by the cells that they load and who wrote these last; then the cell of a store."""
    rows, stage, places = [], kernel[operation][2], places_of(kernel.job, operation)
    for (_, cell, writer), (_, step, offset) in zip(loaded, places):
        rows.append(writer if cell == step * number + offset else cell)
    if operation not in kernel.job.valued:
        rows.append(places[-1][1] * (number + stage) + kernel[operation][5][-1])
    return rows


def is_wrong_finding(kernel, rounds, value):
    """Whether the value is a wrong finding of a run of so many rounds."""
    check_kernel(kernel)
    check_number(rounds, 0, None)
    if not isinstance(value, tuple) or len(value) != 5 or value[1] not in kernel:
        return False
    tick, operation, number, index, told = value
    if not all([is_whole(part) for part in (tick, number, index)]) or not is_found(told):
        return False
    if not 0 <= number < rounds or tick != kernel.starts[operation] + kernel.interval * number:
        return False
    wanted = due_findings(kernel, operation, number)
    if not 0 <= index < len(wanted) or told == wanted[index]:
        return False
    return findings_in(kernel, rounds, operation, number)[index] == told


def is_found(value):
    """Whether the value has the form of what a reading finds."""
    return value is None or is_whole(value) or is_writer(value)


def long_readings(kernel):
    """A dict from the pairs (operation, index of an operand) to their long readings."""
    check_kernel(kernel)
    tracer, rows = Tracer(kernel, None), {}
    for operation in kernel.job.operations:
        _, _, stage, _, sources, _ = kernel[operation]
        for index, source in enumerate(sources):
            made = tracer.maker(source, stage, kernel.starts[operation])
            rows[(operation, index)] = None if made is None else (made[0], -made[1])
    return rows


def enough_rounds(kernel):
    """The number of rounds in which each wrong operand goes wrong."""
    check_kernel(kernel)
    moves = [instruction[0] for row in kernel.rows for instruction in row]
    fewer = min(moves.count("save"), moves.count("reload"))
    return 2 * kernel.stages + kernel.registers + 2 + fewer * (kernel.registers + kernel.cells + 6)


def has_right_operands(kernel):
    """Whether the long readings are the operands of the job."""
    readings = long_readings(kernel)
    return all([
        readings[(text, index)] == operand
        for text in kernel.job.operations for index, operand in enumerate(kernel.job.operands(text))
    ])


def has_right_cells(kernel):
    """Whether the cells of all loads and stores are those of the body."""
    for text in kernel.job.operations:
        _, _, stage, _, _, offsets = kernel[text]
        wanted = [offset - step * stage for _, step, offset in places_of(kernel.job, text)]
        if list(offsets) != wanted:
            return False
    return True


def does_right(kernel):
    """Whether a kernel is right."""
    check_kernel(kernel)
    if not has_right_operands(kernel) or not has_right_cells(kernel):
        return False
    job = kernel.job
    arcs = memory_arcs(parts_of(job.body, job.machine, job.cover), flows(job.body))
    return all([is_kept(arc, kernel.interval, kernel.starts) for arc in arcs])


def least_wrong_run(kernel):
    """The least number of rounds with a wrong finding, and the first one of that run; None if there is none."""
    check_kernel(kernel)
    # A wrong cell is wrong in each round.
    rounds = least_by_operands(kernel) if has_right_cells(kernel) else 1
    rows = wrong_load_rows(kernel.job, kernel.interval, kernel.starts) if rounds is None or rounds > 1 else []
    by_loads = min([row[0] for row in rows], default=None)
    if by_loads is not None and (rounds is None or by_loads < rounds):
        # No operand goes wrong in that run, and no load goes wrong by two stores in one round.
        return (by_loads, min([row[1] for row in rows if row[0] == by_loads], key=lambda thing: thing[:4]))
    return None if rounds is None else (rounds, wrong_in(kernel, rounds)[0])


def least_by_operands(kernel):
    """The least number of rounds of a run in which an operand is wrong, or None."""
    if has_right_operands(kernel):
        return None
    # What is wrong in a run is wrong in each longer one.
    least, most = 0, 1
    while not is_wrong_operand_in(kernel, most):
        least, most = most, 2 * most
    while most - least > 1:
        middle = (least + most) // 2
        if is_wrong_operand_in(kernel, middle):
            most = middle
        else:
            least = middle
    return most


def is_wrong_operand_in(kernel, rounds):
    """Whether an operand is wrong in a run."""
    for _, operation, number, held, _ in run_of(kernel, rounds)[0]:
        operands = kernel.job.operands(operation)
        if held != [(source, number - distance) for source, distance in operands]:
            return True
    return False
