"""Kernels made of starts, and of bases for lives or of a relief."""

from loopfoundry.base.numbers import check_number, is_between, is_whole
from loopfoundry.code.instructions import MAX_MOVES, MAX_STAGES, places_of
from loopfoundry.code.kernels import Kernel
from loopfoundry.errors import InvalidArgument, TooMany
from loopfoundry.few.making import ticks_of_values
from loopfoundry.few.stays import stays_of
from loopfoundry.files.turning import MAX_FILE
from loopfoundry.jobs.starts import check_timed, do_fit

MAX_MOVE_START = 10 ** 7


def check_stages(interval, starts):
    """Raise TooMany if there would be too many stages."""
    if max(list(starts.values())) // interval >= MAX_STAGES:
        raise TooMany(MAX_STAGES)


def is_table(value, wanted, least, most):
    """Whether the value is a dict from just the wanted keys to integers from `least` to `most`."""
    if not isinstance(value, dict) or len(value) != len(wanted):
        return False
    return all([key in value and is_between(value[key], least, most) for key in wanted])


def kernel_of(job, interval, starts, registers, bases):
    """The kernel with these starts and bases, without save cells."""
    check_timed(job, interval, starts)
    check_number(registers, 1, MAX_FILE)
    if not is_table(bases, job.valued, 0, registers - 1):
        raise InvalidArgument("no bases of the values")
    check_stages(interval, starts)
    sources = {text: [bases[source] - distance for source, distance in job.operands(text)] for text in job.operations}
    rows = operation_rows(job, interval, starts, (registers, bases, sources))
    return Kernel(job, interval, registers, 0, in_slots(interval, rows))


def operation_rows(job, interval, starts, told):
    """The pairs (slot, instruction) of all operations, ascending by these.

    `told` has the registers, the bases of the values, and for each operation the bases of its operands, which
    count the rounds of the operation.
    """
    registers, bases, sources = told
    rows = []
    for text in job.operations:
        stage, slot = divmod(starts[text], interval)
        target = (bases[text] - stage) % registers if text in bases else None
        windows = tuple([(base - stage) % registers for base in sources[text]])
        offsets = tuple([offset - step * stage for _, step, offset in places_of(job, text)])
        rows.append((slot, ("op", text, stage, target, windows, offsets)))
    return rows


def in_slots(interval, rows):
    """The rows of a kernel, by pairs (slot, instruction) in their order."""
    return tuple([tuple([instruction for at, instruction in rows if at == slot]) for slot in range(interval)])


def kernel_with(job, interval, starts, registers, relief):
    """The kernel with these starts, and with the moves, bases and save cells of a relief."""
    check_timed(job, interval, starts)
    check_number(registers, 1, MAX_FILE)
    if not do_fit(job, interval, starts):
        raise InvalidArgument("the starts do not fit")
    points = ticks_of_values(job, interval, starts)
    if not is_relief_for(job, points, registers, relief):
        raise InvalidArgument("no relief of the values")
    check_stages(interval, starts)
    _, saves, reloads, bases, cells, places = relief
    if len(saves) + len(reloads) > MAX_MOVES:
        raise TooMany(MAX_MOVES)
    first_bases = {text: bases[f"{text}:0"] for text in job.valued}
    sources = {text: operand_bases(job, (interval, starts, points), text, reloads, bases) for text in job.operations}
    rows = operation_rows(job, interval, starts, (registers, first_bases, sources))
    for text in sorted(saves):
        passes, slot = divmod(saves[text], interval)
        rows.append((slot, ("save", (first_bases[text] - passes) % registers, (places[text] - passes) % cells)))
    for text, place in sorted(reloads):
        passes, slot = divmod(reloads[(text, place)], interval)
        target = (bases[f"{text}:{place}"] - passes) % registers
        rows.append((slot, ("reload", (places[text] - passes) % cells, target)))
    return Kernel(job, interval, registers, cells, in_slots(interval, rows))


def operand_bases(job, timed, operation, reloads, bases):
    """The bases of the stays that the operands of an operation are read from, by the rounds of the operation."""
    interval, starts, points = timed
    rows = []
    for source, distance in job.operands(operation):
        point = points[source].index(starts[operation] + interval * distance)
        first = max([0] + [place for text, place in reloads if text == source and place <= point])
        rows.append(bases[f"{source}:{first}"] - distance)
    return rows


def is_relief_for(job, points, registers, value):
    """Whether the value has the form of a relief for these points, right or not."""
    if not isinstance(value, tuple) or len(value) != 6 or value[0] != "relief":
        return False
    _, saves, reloads, bases, cells, places = value
    if not isinstance(saves, dict) or not isinstance(reloads, dict):
        return False
    if not all([is_point(points, gap) and is_between(start, 0, MAX_MOVE_START) for gap, start in reloads.items()]):
        return False
    saved = sorted(set([gap[0] for gap in reloads]))
    if not is_table(saves, saved, 0, MAX_MOVE_START):
        return False
    wanted = []
    for text in job.valued:
        early = {place: 0 for source, place in reloads if source == text}
        wanted += list(stays_of(text, points[text], early, 0))
    if not is_table(bases, wanted, 0, registers - 1) or not is_between(cells, 0, MAX_FILE):
        return False
    return is_table(places, saved, 0, cells - 1)


def is_point(points, value):
    """Whether the value is a pair of an operation and the index of a point that is not its first one."""
    if not isinstance(value, tuple) or len(value) != 2 or not isinstance(value[0], str) or not is_whole(value[1]):
        return False
    return value[0] in points and 1 <= value[1] < len(points[value[0]])
