"""Instructions of kernels.

They are `("op", operation, stage, target, sources, offsets)`, `("save", source, cell)` and
`("reload", cell, target)`. A *window* w is in the pass k the register `(w + k)`, or the save cell
`(w + k)`, modulo how many there are.
"""

from loopfoundry.base.numbers import is_between, is_whole

MAX_STAGES = 64
MAX_MOVES = 24


def is_window(value, many):
    """Whether the value is a window of so many registers or save cells."""
    return is_between(value, 0, many - 1)


def is_kernel_rows(job, interval, registers, cells, value):
    """Whether the value is the rows of a kernel."""
    if not isinstance(value, tuple) or len(value) != interval:
        return False
    if not all([isinstance(row, tuple) for row in value]):
        return False
    found = [instruction for row in value for instruction in row]
    if not all([is_instruction(job, registers, cells, instruction) for instruction in found]):
        return False
    done = [instruction[1] for instruction in found if instruction[0] == "op"]
    return len(found) - len(done) <= MAX_MOVES and sorted(done) == list(job.operations)


def is_instruction(job, registers, cells, value):
    """Whether the value is an instruction of a kernel of the job."""
    if not isinstance(value, tuple) or len(value) not in (3, 6):
        return False
    if len(value) == 6:
        return value[0] == "op" and value[1] in job and is_start(job, registers, value)
    if value[0] == "save":
        return is_window(value[1], registers) and is_window(value[2], cells)
    return value[0] == "reload" and is_window(value[1], cells) and is_window(value[2], registers)


def is_start(job, registers, value):
    """Whether an instruction has the stage, the windows and the offsets of its operation."""
    _, operation, stage, target, sources, offsets = value
    is_store = operation not in job.valued
    if not is_between(stage, 0, MAX_STAGES - 1) or not isinstance(sources, tuple) or not isinstance(offsets, tuple):
        return False
    if not (target is None if is_store else is_window(target, registers)):
        return False
    if len(sources) != len(job.operands(operation)) or not all([is_window(source, registers) for source in sources]):
        return False
    # Offsets have any size: those of places go on with the stages.
    wanted = len(job.loaded(operation)) + (1 if is_store else 0)
    return len(offsets) == wanted and all([is_whole(offset) for offset in offsets])


def stores_of(job):
    """A dict from the operations that are stores to their places (array, step, offset)."""
    return {row[0]: row[1:] for row in job.body.stores}


def loads_of(job, operation):
    """The places (array, step, offset) of the loads within the pattern of an operation, from left to right."""
    rows = {row[0]: row[1:] for row in job.body.loads}
    return [rows[load] for load in job.loaded(operation)]


def places_of(job, operation):
    """The places of the loads within the pattern of an operation, and then, for a store, its own one."""
    stores = stores_of(job)
    return loads_of(job, operation) + ([stores[operation]] if operation in stores else [])


def moved_instruction(instruction, sizes, windows, passes):
    """An instruction so many passes later, with windows that are greater by a pair of numbers.

    The sizes are how many registers and save cells there are.
    """
    (registers, cells), (more, further) = sizes, windows
    if instruction[0] == "save":
        return ("save", (instruction[1] + more) % registers, (instruction[2] + further) % cells)
    if instruction[0] == "reload":
        return ("reload", (instruction[1] + further) % cells, (instruction[2] + more) % registers)
    _, operation, stage, target, sources, offsets = instruction
    new_target = None if target is None else (target + more) % registers
    new_sources = tuple([(source + more) % registers for source in sources])
    return ("op", operation, stage + passes, new_target, new_sources, offsets)


def later_instruction(job, instruction, sizes, passes):
    """An instruction so many passes later, with the same registers and cells in each round."""
    moved = moved_instruction(instruction, sizes, (-passes, -passes), passes)
    if moved[0] != "op":
        return moved
    places = places_of(job, moved[1])
    return (*moved[:5], tuple([offset - place[1] * passes for offset, place in zip(moved[5], places)]))
