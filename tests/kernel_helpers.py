"""What the tests of kernels share: drawn kernels, and a machine that keeps registers, cells and memory itself."""

from loopfoundry.code.kernels import Kernel
from tests.helpers import draw_job


def places(job, text):
    """The places of the loads of an operation, and of the store that it is."""
    rows = [next(row[1:] for row in job.body.loads if row[0] == load) for load in job.loaded(text)]
    return rows + [row[1:] for row in job.body.stores if row[0] == text]


def draw_rows(random, job, interval, registers, cells, moves, stages=4, wrong=0.1):
    """The rows of a kernel with any windows; offsets are mostly those of the body."""
    rows = [[] for _ in range(interval)]
    for text in job.operations:
        stage = random.randrange(stages)
        offsets = [at - step * stage + (random.choice((-1, 1, step)) if random.random() < wrong else 0) for _, step, at in places(job, text)]
        target = None if text not in job.valued else random.randrange(registers)
        sources = tuple(random.randrange(registers) for _ in job.operands(text))
        random.choice(rows).append(("op", text, stage, target, sources, tuple(offsets)))
    for _ in range(moves if cells else 0):
        kind, one, other = random.choice(("save", "reload")), random.randrange(registers), random.randrange(cells)
        random.choice(rows).append((kind, one, other) if kind == "save" else (kind, other, one))
    for row in rows:
        random.shuffle(row)
    return tuple(map(tuple, rows))


def draw_kernel(random, moves=6, wrong=0.1, most=3, levels=2):
    job = draw_job(random, most=most, levels=levels)
    interval, registers, cells = random.randint(1, 4), random.randint(1, 5), random.randint(0, 3)
    rows = draw_rows(random, job, interval, registers, cells, random.randint(0, moves), wrong=wrong)
    return Kernel(job, interval, registers, cells, rows)


class SecondMachine:
    """A run of a kernel, tick by tick: all that starts, and all that is written, is written down first."""

    def __init__(self, kernel, rounds, early=14, told=None):
        self.kernel, self.rounds = kernel, rounds
        job = kernel.job
        self.registers, self.cells, self.memory = [None] * kernel.registers, [None] * kernel.cells, {}
        self.values, self.finds = {}, {}
        self.meaning, self.first, self.contents = told or (lambda *_: None,) * 3
        starts, self.writes = [], []
        for slot, row in enumerate(kernel.rows):
            for place, instruction in enumerate(row):
                for k in range(-early, rounds + kernel.stages + 1):
                    if instruction[0] != "op":
                        starts.append((slot + kernel.interval * k, place, k, instruction))
                        continue
                    number = k - instruction[2]
                    root = -3 if instruction[1] in job.body.scalars else 0
                    if root <= number < rounds:
                        starts.append((slot + kernel.interval * k, place, k, instruction))
        starts.sort(key=lambda row: row[:2])
        for tick, place, k, instruction in starts:
            self.write(tick)
            self.start(tick, place, k, instruction)
        self.write(None)

    def write(self, tick):
        """Do all writing up to a tick."""
        ready = sorted((row for row in self.writes if tick is None or row[0] <= tick), key=lambda row: row[:3])
        self.writes = [row for row in self.writes if tick is not None and row[0] > tick]
        for _, _, _, where, at, what in ready:
            where[at] = what

    def start(self, tick, place, k, instruction):
        kernel, job = self.kernel, self.kernel.job
        if instruction[0] == "save":
            what = self.registers[(instruction[1] + k) % kernel.registers]
            self.writes.append((tick + job.machine.save[0], tick, place, self.cells, (instruction[2] + k) % kernel.cells, what))
            return
        if instruction[0] == "reload":
            what = self.cells[(instruction[1] + k) % kernel.cells]
            at = (instruction[2] + k) % kernel.registers
            self.writes.append((tick + job.machine.reload[0], tick, place, self.registers, at, what))
            return
        _, text, stage, target, sources, offsets = instruction
        number, end = k - stage, tick + job.ticks(text)
        if number >= 0:
            self.read(text, number, k, sources, offsets)
        if text in job.valued:
            self.writes.append((end, tick, place, self.registers, (target + k) % kernel.registers, (text, number)))
        else:
            array, step, _ = places(job, text)[-1]
            self.writes.append((end, tick, place, self.memory, (array, step * k + offsets[-1]), (text, number)))

    def read(self, text, number, k, sources, offsets):
        job, rows, known = self.kernel.job, [], []
        for source in sources:
            rows.append(self.registers[(source + k) % self.kernel.registers])
            known.append(self.worth(rows[-1], None))
        loads = []
        for (array, step, at), offset in zip(places(job, text), offsets):
            cell = step * k + offset
            right = cell == step * number + at
            if len(loads) < len(job.loaded(text)):
                maker = self.memory.get((array, cell))
                rows.append(maker if right else cell)
                loads.append(self.worth(maker, (array, cell)))
            else:
                rows.append(cell)
        self.finds[text, number] = tuple(rows)
        self.values[text, number] = self.value_of(text, known, loads)

    def worth(self, maker, cell):
        if maker is None:
            return None if cell is None else self.contents(*cell)
        return self.first(*maker) if maker[1] < 0 else self.values[maker]

    def value_of(self, text, known, loads):
        from tests.test_runs import value_by

        job = self.kernel.job
        return value_by(job.machine.pattern(job[text])[1], job.body.tree(text), iter(known), iter(loads), self.meaning)

    def told(self):
        """The values and cells of the run."""
        values = {text: tuple(self.values[text, k] for k in range(self.rounds)) for text in self.kernel.job.valued}
        return values, {at: self.values[maker] for at, maker in sorted(self.memory.items())}


def plain_findings(job, rounds):
    """What each reading finds in the run of the body, and the cells of its stores."""
    from tests import test_runs

    told = test_runs.plain_findings(job, rounds)
    stores = {row[0]: row[2:] for row in job.body.stores}
    return {
        (text, k): (*row, stores[text][0] * k + stores[text][1]) if text in stores else row for (text, k), row in told.items()
    }


def second_wrong(kernel, rounds):
    """The ascending wrong findings of a run, by the machine of the test."""
    machine, plain, rows = SecondMachine(kernel, rounds), plain_findings(kernel.job, rounds), []
    for (text, k), told in machine.finds.items():
        for index, one in enumerate(told):
            if one != plain[text, k][index]:
                rows.append((kernel.starts[text] + kernel.interval * k, text, k, index, one))
    return sorted(rows, key=lambda row: row[:4])


def plan_kernel(random, more=2, **sizes):
    """A right kernel made of fitting starts and of bases for its lives; None if none was drawn."""
    from loopfoundry.code.making import kernel_of
    from loopfoundry.files.lives import lives_of
    from loopfoundry.files.turning import file_paper, least_registers
    from tests.helpers import fitting_starts

    job, interval = draw_job(random, **sizes), random.randint(1, 6)
    starts = fitting_starts(random, job, interval)
    if starts is None or max(starts.values()) // interval > 40:
        return None
    lives = lives_of(job, interval, starts)
    registers = max(1, least_registers(lives) + random.randint(0, more))
    if registers > 24:
        return None
    return kernel_of(job, interval, starts, registers, file_paper(lives, registers)[1])


def operand_kernel(random, **sizes):
    """A kernel whose operands are right, by starts that perhaps do not fit stores and loads; None if none was drawn."""
    from loopfoundry.code.making import kernel_of
    from loopfoundry.files.lives import Lives
    from loopfoundry.files.turning import file_paper, least_registers
    from tests.helpers import fitting_starts, operand_arcs

    job, interval, rows = draw_job(random, **sizes), random.randint(1, 6), {}
    starts = fitting_starts(random, job, interval, operand_arcs(job))
    if starts is None or max(starts.values()) // interval > 40:
        return None
    for text in job.valued:
        begin = starts[text] + job.ticks(text)
        ends = [starts[reader] + interval * gap for reader in job.operations for source, gap in job.operands(reader) if source == text]
        rows[text] = (begin, max([begin, *ends]) + 1)
    lives = Lives(interval, rows)
    registers = max(1, least_registers(lives))
    if registers > 24:
        return None
    return kernel_of(job, interval, starts, registers, file_paper(lives, registers)[1])


def relief_kernel(random, **sizes):
    """A right kernel made of a plan and of a relief with moves, and the relief; None if none was drawn."""
    from loopfoundry.code.making import kernel_with
    from loopfoundry.errors import TooMany
    from loopfoundry.few.making import points_of
    from loopfoundry.few.papers import fewest_registers, relief_paper
    from loopfoundry.plans.plans import is_plan
    from tests.helpers import fitting_starts

    job, interval = draw_job(random, chance=0.1, **sizes), random.randint(2, 6)
    starts = fitting_starts(random, job, interval)
    if starts is None or not is_plan(job, interval, starts) or max(starts.values()) // interval > 40:
        return None
    points = points_of(job, interval, starts)
    if not 1 <= len(points.gaps) <= 6:
        return None
    try:
        registers = fewest_registers(points)
    except TooMany:
        return None
    if registers is None:
        return None
    relief = relief_paper(points, registers)
    if not relief[1]:
        return None
    return kernel_with(job, interval, starts, registers, relief), relief


def drawn(random, make, many):
    """So many drawn kernels."""
    rows = []
    while len(rows) < many:
        one = make(random)
        if one is not None:
            rows.append(one)
    return rows


def bent_kernel(random, kernel):
    """The kernel with one window, offset, stage or move changed; None if there is none such."""
    from loopfoundry.errors import InvalidKernel

    rows = [list(row) for row in kernel.rows]
    filled = [k for k, row in enumerate(rows) if row]
    row = rows[random.choice(filled)]
    at = random.randrange(len(row))
    one = list(row[at])
    kind = random.choice(("source", "offset", "stage", "target", "window", "slot", "gone"))
    if one[0] != "op":
        if kind == "gone":
            row.pop(at)
        elif kind == "slot":
            random.choice(rows).append(row.pop(at))
        else:
            place = random.choice((1, 2))
            one[place] = random.randrange(kernel.registers if (one[0] == "save") == (place == 1) else kernel.cells)
            row[at] = tuple(one)
    elif kind == "stage":
        one[2] = max(0, one[2] + random.choice((-1, 1)))
        row[at] = tuple(one)
    elif kind == "slot":
        row.insert(random.randint(0, len(row)), row.pop(at))
        moved = row.pop(random.randrange(len(row)))
        rows[random.randrange(len(rows))].append(moved)
    elif kind == "target" and one[3] is not None:
        one[3] = random.randrange(kernel.registers)
        row[at] = tuple(one)
    elif kind == "offset" and one[5]:
        place = random.randrange(len(one[5]))
        one[5] = tuple(offset + (random.choice((-1, 1)) if k == place else 0) for k, offset in enumerate(one[5]))
        row[at] = tuple(one)
    elif one[4]:
        place = random.randrange(len(one[4]))
        one[4] = tuple(random.randrange(kernel.registers) if k == place else window for k, window in enumerate(one[4]))
        row[at] = tuple(one)
    try:
        return Kernel(kernel.job, kernel.interval, kernel.registers, kernel.cells, tuple(map(tuple, rows)))
    except InvalidKernel:
        return None
