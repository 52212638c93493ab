"""Kernels: rows of instructions, done again and again over registers and save cells that turn."""

from loopfoundry.base.numbers import check_integer, check_number
from loopfoundry.code.instructions import MAX_STAGES, is_kernel_rows, later_instruction, moved_instruction
from loopfoundry.code.playing import values_of_run
from loopfoundry.errors import InvalidKernel, TooMany, UnknownName
from loopfoundry.files.turning import MAX_FILE
from loopfoundry.jobs.starts import check_interval, check_job
from loopfoundry.source.bodies import MAX_ROUNDS

MAX_TOLD = 300


def asked_in(job, interval, rows):
    """How often operations and moves ask for each pair (unit, slot)."""
    moves = {"save": job.machine.save[1], "reload": job.machine.reload[1]}
    counts = {}
    for slot, row in enumerate(rows):
        for instruction in row:
            uses = job.uses(instruction[1]) if instruction[0] == "op" else moves[instruction[0]]
            for unit, offset in uses:
                at = (unit, (slot + offset) % interval)
                counts[at] = counts.get(at, 0) + 1
    return {at: counts[at] for at in sorted(counts)}


class Kernel:
    """A row of instructions for each slot, which does the rounds of a job, one after another."""

    def __init__(self, job, interval, registers, cells, rows):
        check_job(job)
        check_interval(interval)
        check_number(registers, 1, MAX_FILE)
        check_number(cells, 0, MAX_FILE)
        if not is_kernel_rows(job, interval, registers, cells, rows):
            raise InvalidKernel("no rows of a kernel")
        self._job = job
        self._interval = interval
        self._registers = registers
        self._cells = cells
        self._rows = rows
        self._all = [instruction for row in rows for instruction in row]
        found = {instruction[1]: instruction for instruction in self._all if instruction[0] == "op"}
        self._found = {text: found[text] for text in job.operations}
        slots = {
            instruction[1]: slot for slot, row in enumerate(rows) for instruction in row if instruction[0] == "op"
        }
        self._starts = {text: slots[text] + interval * self._found[text][2] for text in self._found}
        self._stages = max([instruction[2] for instruction in self._found.values()]) + 1
        self._moves = len(self._all) - len(self._found)
        self._asked = asked_in(job, interval, rows)

    @classmethod
    def of(cls, job, interval, registers, cells, *rows):
        """The kernel with these rows."""
        return cls(job, interval, registers, cells, rows)

    @property
    def job(self):
        return self._job

    @property
    def interval(self):
        return self._interval

    @property
    def registers(self):
        return self._registers

    @property
    def cells(self):
        return self._cells

    @property
    def rows(self):
        return self._rows

    @property
    def starts(self):
        """The starts of the operations of round 0."""
        return dict(self._starts)

    @property
    def stages(self):
        """The greatest stage plus 1."""
        return self._stages

    @property
    def moves(self):
        """How many saves and reloads there are."""
        return self._moves

    @property
    def asked(self):
        """How often operations and moves ask for each pair (unit, slot)."""
        return {at: self._asked[at] for at in self._asked}

    def __getitem__(self, at):
        if not isinstance(at, str) or at not in self._found:
            raise UnknownName(at)
        return self._found[at]

    def __contains__(self, x):
        return isinstance(x, str) and x in self._found

    def __len__(self):
        return len(self._all)

    def __iter__(self):
        return iter(self._found)

    def __eq__(self, other):
        return (
            isinstance(other, Kernel)
            and self._job == other._job
            and self._interval == other._interval
            and self._registers == other._registers
            and self._cells == other._cells
            and self._rows == other._rows
        )

    def __str__(self):
        return ", ".join([
            f"kernel of {len(self._rows)} rows",
            f"{self._stages} stages",
            f"{self._registers} registers",
            f"{self._cells} cells",
        ])

    def guards(self, rounds, number):
        """The ascending stages with an operation that starts in a pass of a run."""
        check_number(rounds, 0, None)
        check_integer(number)
        stages = sorted(set([instruction[2] for instruction in self._found.values()]))
        return tuple([stage for stage in stages if 0 <= number - stage < rounds])

    def timeline(self, rounds):
        """The ascending (tick, operation, round) of all starts of a run."""
        check_number(rounds, 0, MAX_TOLD)
        rows = [
            (start + self._interval * number, text, number)
            for text, start in self._starts.items() for number in range(rounds)
        ]
        for row in sorted(rows):
            yield row

    def duration(self, rounds):
        """The ticks from the first start of an operation to the last writing of one."""
        check_number(rounds, 0, None)
        if rounds == 0:
            return 0
        end = max([start + self._job.ticks(text) for text, start in self._starts.items()])
        return end - min(list(self._starts.values())) + self._interval * (rounds - 1)

    def played(self, rounds, meaning, first, contents):
        """The values of the operations, and the stored cells, of a run of the kernel."""
        check_number(rounds, 0, MAX_ROUNDS)
        return values_of_run(self, rounds, meaning, first, contents)

    def later(self, ticks):
        """The kernel that does everything so many ticks later."""
        check_number(ticks, 0, None)
        rows = [[] for _ in self._rows]
        if (max(list(self._starts.values())) + ticks) // self._interval >= MAX_STAGES:
            raise TooMany(MAX_STAGES)
        for slot, row in enumerate(self._rows):
            passes, new_slot = divmod(slot + ticks, self._interval)
            sizes = (self._registers, self._cells)
            rows[new_slot] = [later_instruction(self._job, instruction, sizes, passes) for instruction in row]
        return self._with([tuple(row) for row in rows])

    def rolled(self, *, registers=0, cells=0):
        """The kernel with all windows greater by so many, around."""
        check_integer(registers)
        check_integer(cells)
        sizes, windows = (self._registers, self._cells), (registers, cells)
        return self._with([
            tuple([moved_instruction(instruction, sizes, windows, 0) for instruction in row]) for row in self._rows
        ])

    def _with(self, rows):
        """The kernel with other rows."""
        return Kernel(self._job, self._interval, self._registers, self._cells, tuple(rows))
