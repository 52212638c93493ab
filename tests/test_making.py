"""Kernels made of starts and bases, or of a relief: what stands in their rows, and that they do what they are told."""

import unittest

from loopfoundry.code.checks import does_right, least_wrong_run
from loopfoundry.code.kernels import Kernel
from loopfoundry.code.making import kernel_of, kernel_with
from loopfoundry.errors import InvalidArgument, InvalidJob, TooMany
from loopfoundry.few.making import points_of
from loopfoundry.few.moves import Moves
from loopfoundry.few.papers import relief_paper
from loopfoundry.files.lives import lives_of
from loopfoundry.files.turning import file_paper, is_bases, least_registers
from loopfoundry.jobs.jobs import Job
from loopfoundry.machine.machines import Machine
from loopfoundry.plans.plans import is_plan
from loopfoundry.source.bodies import Body
from tests.helpers import CHIP, DOT, PAIRS, draw_job, draw_starts, fitting_starts, odd_values, refused, refuses_number, seeded, symbols
from tests.kernel_helpers import SecondMachine, drawn, places, second_wrong

JOB = Job(DOT, CHIP, {"mul": "mul", "mul.0": "get", "mul.1": "get", "sum": "add"})
STARTS = {"mul": 3, "mul.0": 0, "mul.1": 1, "sum": 6}
BASES = {"mul": 0, "mul.0": 0, "mul.1": 1, "sum": 0}
HOLD = Body(("set", "a", ("load", "y", 1, 0)), ("store", "put", "z", 1, 0, ("op", "f", ("at", "a", 2))))
KEEP = Job(HOLD, CHIP, {"a": "get", "put": "put", "put.0": "f"})
KEEP_STARTS = {"a": 0, "put": 1, "put.0": 0}
KEEP_RELIEF = ("relief", {"a": 3}, {("a", 1): 6}, {"a:0": 0, "a:1": 0, "put.0:0": 0}, 1, {"a": 0})


def draw_made(random, **sizes):
    """A job, an interval, starts that fit, registers and bases; None if none was drawn."""
    job, interval = draw_job(random, **sizes), random.randint(1, 6)
    starts = fitting_starts(random, job, interval)
    if starts is None or max(starts.values()) // interval > 60:
        return None
    registers = max(1, least_registers(lives_of(job, interval, starts)))
    return (job, interval, starts, registers) if registers <= 24 else None


def draw_relief(random):
    """A job, an interval, a plan, registers and a relief with moves; None if none was drawn."""
    job, interval = draw_job(random, chance=0.15), random.randint(2, 6)
    starts = fitting_starts(random, job, interval)
    if starts is None or not is_plan(job, interval, starts) or max(starts.values()) // interval > 60:
        return None
    points = points_of(job, interval, starts)
    if not 1 <= len(points.gaps) <= 6:
        return None
    papers = [(registers, relief_paper(points, registers)) for registers in range(1, 9)]
    fine = [(registers, relief) for registers, relief in papers if relief[0] == "relief" and relief[1]]
    return (job, interval, starts, *random.choice(fine)) if fine else None


class PlansTest(unittest.TestCase):
    def test_kernels_of_plans_are_right(self):
        random = seeded(840)
        for job, interval, starts, registers in drawn(random, draw_made, 150):
            registers += random.randint(0, 1) if registers < 24 else 0
            bases = file_paper(lives_of(job, interval, starts), registers)[1]
            kernel, rounds = kernel_of(job, interval, starts, registers, bases), random.randint(0, 9)
            self.assertEqual((kernel.starts, kernel.cells, kernel.moves), (starts, 0, 0))
            self.assertEqual(second_wrong(kernel, rounds), [])
            self.assertEqual(kernel.played(rounds, *symbols()), job.run(rounds, *symbols()))
            self.assertIs(does_right(kernel), True)
            self.assertIsNone(least_wrong_run(kernel))

    def test_registers_and_cells_of_any_bases(self):
        random = seeded(841)
        for _ in range(150):
            job, interval, registers = draw_job(random), random.randint(1, 6), random.randint(1, 24)
            starts = draw_starts(random, job)
            bases = {text: random.randrange(registers) for text in job.valued}
            kernel = kernel_of(job, interval, starts, registers, bases)
            self.assertEqual(kernel.starts, starts)
            for text in job.operations:
                _, _, stage, target, sources, offsets = kernel[text]
                self.assertEqual(stage, starts[text] // interval)
                self.assertIn(kernel[text], kernel.rows[starts[text] % interval])
                for i in (-3, 0, 1, 7):
                    k = i + stage
                    if text in bases:
                        self.assertEqual((target + k) % registers, (bases[text] + i) % registers)
                    for window, (source, distance) in zip(sources, job.operands(text)):
                        self.assertEqual((window + k) % registers, (bases[source] + i - distance) % registers)
                    for offset, (_, step, at) in zip(offsets, places(job, text)):
                        self.assertEqual(step * k + offset, step * i + at)
            for row in kernel.rows:
                self.assertEqual([one[1] for one in row], sorted(one[1] for one in row))

    def test_only_bases_are_right_for_a_plan(self):
        random, wrong = seeded(842), 0
        for job, interval, starts, registers in drawn(random, draw_made, 120):
            lives = lives_of(job, interval, starts)
            bases = {text: random.randrange(registers) for text in job.valued}
            kernel = kernel_of(job, interval, starts, registers, bases)
            if is_bases(lives, registers, bases):
                self.assertIs(does_right(kernel), True)
            wrong += not does_right(kernel)
        self.assertGreater(wrong, 30)

    def test_starts_that_do_not_fit(self):
        random, tried = seeded(843), 0
        while tried < 80:
            job, interval = draw_job(random, most=3), random.randint(1, 4)
            starts = draw_starts(random, job)
            if all(starts[t] - starts[s] >= delay - interval * gap for s, t, delay, gap in job.arcs):
                continue
            tried += 1
            registers = random.randint(1, 8)
            bases = {text: random.randrange(registers) for text in job.valued}
            kernel = kernel_of(job, interval, starts, registers, bases)
            self.assertIs(does_right(kernel), False)
            rounds, finding = least_wrong_run(kernel)
            if rounds < 40:
                self.assertEqual((second_wrong(kernel, rounds - 1), second_wrong(kernel, rounds)[0]), ([], finding))

    def test_the_example(self):
        rows = ((("op", "mul.0", 0, 0, (), (0,)), ("op", "sum", 3, 1, (0, 1), ())), (("op", "mul", 1, 3, (3, 0), ()), ("op", "mul.1", 0, 1, (), (0,))))
        self.assertEqual(kernel_of(JOB, 2, STARTS, 4, BASES).rows, rows)

    def test_64_and_65_stages(self):
        for interval in (1, 2, 32):
            late = {**STARTS, "sum": 64 * interval - 1}
            self.assertEqual(kernel_of(JOB, interval, late, 4, BASES).stages, 64)
            late = {**STARTS, "sum": 64 * interval}
            self.assertEqual(refused(self, TooMany, kernel_of, JOB, interval, late, 4, BASES).limit, 64)
        late = {text: start + 10**6 - 6 for text, start in STARTS.items()}
        self.assertEqual(refused(self, TooMany, kernel_of, JOB, 2, late, 4, BASES).limit, 64)
        relief = ("relief", {}, {}, {f"{text}:0": 0 for text in STARTS}, 0, {})
        self.assertEqual(refused(self, TooMany, kernel_with, JOB, 2, late, 4, relief).limit, 64)

    def test_far_offsets(self):
        body = Body(("store", "put", "x", 1 - 10**30, 1 - 10**30, ("op", "f", ("load", "x", 10**30 - 1, 10**30 - 2))))
        job = Job(body, CHIP, {"put": "put", "put.0": "f", "put.0.0": "get"})
        kernel = kernel_of(job, 1, {"put": 63, "put.0": 61, "put.0.0": 59}, 8, {"put.0": 0, "put.0.0": 1})
        self.assertEqual(kernel["put"][5], (1 - 10**30 + 63 * (10**30 - 1),))
        self.assertEqual(kernel["put.0.0"][5], (10**30 - 2 - 59 * (10**30 - 1),))
        self.assertEqual(kernel.played(4, *symbols()), job.run(4, *symbols()))


class ReliefsTest(unittest.TestCase):
    def test_kernels_of_reliefs_are_right(self):
        random, moves = seeded(844), 0
        for job, interval, starts, registers, relief in drawn(random, draw_relief, 120):
            kernel, rounds = kernel_with(job, interval, starts, registers, relief), random.randint(0, 9)
            moves += kernel.moves
            self.assertEqual((kernel.starts, kernel.cells), (starts, relief[4]))
            self.assertEqual(kernel.moves, len(relief[1]) + len(relief[2]))
            self.assertTrue(all(many <= job.machine.units[at[0]] for at, many in kernel.asked.items()))
            self.assertEqual(second_wrong(kernel, rounds), [])
            self.assertEqual(kernel.played(rounds, *symbols()), job.run(rounds, *symbols()))
            self.assertIs(does_right(kernel), True)
        self.assertGreater(moves, 200)

    def test_registers_and_cells_of_any_relief(self):
        random, tried = seeded(845), 0
        for job, interval, starts, registers, relief in drawn(random, draw_relief, 80):
            _, saves, reloads, bases, cells, places_told = relief
            cells = random.randint(1, 24)
            saves = {text: random.randint(0, 30) for text in saves}
            reloads = {gap: random.randint(0, 30) for gap in reloads}
            bases = {key: random.randrange(registers) for key in bases}
            told = {text: random.randrange(cells) for text in saves}
            kernel = kernel_with(job, interval, starts, registers, ("relief", saves, reloads, bases, cells, told))
            points = points_of(job, interval, starts)
            for i in (-3, 0, 5):
                for text in job.operations:
                    _, _, stage, target, sources, _ = kernel[text]
                    if text in job.valued:
                        self.assertEqual((target + i + stage) % registers, (bases[f"{text}:0"] + i) % registers)
                    for window, (source, distance) in zip(sources, job.operands(text)):
                        point = points[source].index(starts[text] + interval * distance)
                        first = max([0, *[j for key, j in reloads if key == source and j <= point]])
                        place = (bases[f"{source}:{first}"] + i - distance) % registers
                        self.assertEqual((window + i + stage) % registers, place)
                wanted = [[] for _ in range(interval)]
                for text in sorted(saves):
                    k, slot = divmod(saves[text] + interval * i, interval)
                    wanted[slot].append(("save", (bases[f"{text}:0"] + i) % registers, (told[text] + i) % cells, k))
                for text, j in sorted(reloads):
                    k, slot = divmod(reloads[text, j] + interval * i, interval)
                    wanted[slot].append(("reload", (told[text] + i) % cells, (bases[f"{text}:{j}"] + i) % registers, k))
                for slot, row in enumerate(kernel.rows):
                    found = [one for one in row if one[0] != "op"]
                    self.assertEqual(row[len(row) - len(found) :], tuple(found))
                    for one, (kind, source, target, k) in zip(found, wanted[slot], strict=True):
                        sizes = (registers, cells) if kind == "save" else (cells, registers)
                        self.assertEqual((one[0], (one[1] + k) % sizes[0], (one[2] + k) % sizes[1]), (kind, source, target))
                        tried += 1
        self.assertGreater(tried, 300)

    def test_the_example(self):
        kernel = kernel_with(KEEP, 4, KEEP_STARTS, 1, KEEP_RELIEF)
        rows = ((("op", "a", 0, 0, (), (0,)), ("op", "put.0", 0, 0, (0,), ())), (("op", "put", 0, None, (0,), (0,)),), (("reload", 0, 0),), (("save", 0, 0),))
        self.assertEqual((kernel.rows, kernel.cells), (rows, 1))
        told = kernel.played(2, lambda operator, values: values, lambda name, number: number, lambda array, cell: cell)
        self.assertEqual(told, ({"a": (0, 1), "put.0": ((-2,), (-1,))}, {("z", 0): (-2,), ("z", 1): (-1,)}))

    def test_without_moves(self):
        random = seeded(846)
        for job, interval, starts, registers in drawn(random, draw_made, 60):
            bases = file_paper(lives_of(job, interval, starts), registers)[1]
            relief = ("relief", {}, {}, {f"{text}:0": base for text, base in bases.items()}, 0, {})
            kernel = kernel_with(job, interval, starts, registers, relief)
            self.assertEqual(kernel, kernel_of(job, interval, starts, registers, bases))
            wide = kernel_with(job, interval, starts, registers, (*relief[:4], 24, {}))
            self.assertEqual((wide.rows, wide.cells), (kernel.rows, 24))

    def test_24_and_25_moves(self):
        machine = Machine.from_lines("pattern h 1 1 : h ( )", "pattern k 1 1 : k ( _ _ _ )")
        names = "abcdefghijkl"
        rows = [("set", name, ("op", "h")) for name in names]
        rows += [("set", "x" + names[k], ("op", "k", *[("at", name, 1) for name in names[3 * k : 3 * k + 3]])) for k in range(4)]
        rows.append(("set", "z", ("op", "k", ("at", "a", 2), ("at", "b", 2), ("at", "c", 2))))
        body = Body(*rows)
        job = Job(body, machine, {row[1]: row[2][1] for row in rows})
        starts = {row[1]: 0 for row in rows}
        saves = {name: 1 for name in names}
        reloads = {(name, 1): 4 for name in names}
        for more in (0, 1):
            if more:
                reloads = {**reloads, ("a", 2): 9}
            keys = [f"{row[1]}:0" for row in rows] + [f"{name}:{j}" for name, j in reloads]
            relief = ("relief", saves, reloads, dict.fromkeys(keys, 0), 24, dict.fromkeys(names, 0))
            if more:
                self.assertEqual(refused(self, TooMany, kernel_with, job, 5, starts, 24, relief).limit, 24)
            else:
                self.assertEqual(kernel_with(job, 5, starts, 24, relief).moves, 24)
        late = {text: 64 * 5 for text in starts}
        self.assertEqual(refused(self, TooMany, kernel_with, job, 5, late, 24, relief).limit, 64)

    def test_moves_far_away(self):
        relief = ("relief", {"a": 10**7}, {("a", 1): 10**7 - 1}, KEEP_RELIEF[3], 3, {"a": 2})
        kernel = kernel_with(KEEP, 4, KEEP_STARTS, 1, relief)
        self.assertEqual(kernel.rows[0][-1], ("save", 0, (2 - 10**7 // 4) % 3))
        self.assertEqual(kernel.rows[3][-1], ("reload", (2 - (10**7 - 1) // 4) % 3, 0))
        rounds, finding = least_wrong_run(kernel)
        self.assertEqual(second_wrong(kernel, rounds)[0], finding)


class WrongArgumentsTest(unittest.TestCase):
    def test_the_first_arguments(self):
        for call in (kernel_of, kernel_with):
            for value in odd_values():
                if not isinstance(value, Job):
                    refused(self, InvalidJob, call, value, 0, None, 0, None)
                if type(value) is not int or not 1 <= value <= 32:
                    refuses_number(self, value, call, JOB, value, None, 0, None)
                refused(self, InvalidArgument, call, JOB, 2, value, 0, None)
                if type(value) is not int or not 1 <= value <= 24:
                    refuses_number(self, value, call, JOB, 2, STARTS, value, None)
                refused(self, InvalidArgument, call, JOB, 2, STARTS, 4, value)
            for starts in ({**STARTS, "sum": -1}, {**STARTS, "sum": 10**6 + 1}, {**STARTS, "sum": True}, {"mul": 0}, {**STARTS, "x": 0}):
                refused(self, InvalidArgument, call, JOB, 2, starts, 0, None)

    def test_bases(self):
        for value in odd_values():
            if type(value) is not int or not 0 <= value < 4:
                refused(self, InvalidArgument, kernel_of, JOB, 2, STARTS, 4, {**BASES, "sum": value})
        bad = [{}, {**BASES, "x": 0}, {text: BASES[text] for text in ("mul", "sum")}, {**BASES, "sum": 4}, {**BASES, "sum": -1}]
        bad += [{"a": 0, **{text: 0 for text in ("mul", "sum", "mul.0")}}, list(BASES)]
        for bases in bad:
            refused(self, InvalidArgument, kernel_of, JOB, 2, STARTS, 4, bases)
        pairs = Job(PAIRS, CHIP, {"put": "put", "put.0": "f", "put.0.0": "get"})
        refused(self, InvalidArgument, kernel_of, pairs, 3, {"put": 3, "put.0": 2, "put.0.0": 0}, 1, {"put": 0, "put.0": 0, "put.0.0": 0})

    def test_reliefs(self):
        _, saves, reloads, bases, cells, told = KEEP_RELIEF

        def bad(*relief):
            refused(self, InvalidArgument, kernel_with, KEEP, 4, KEEP_STARTS, 1, relief)

        for value in odd_values():
            if value != {"a": 1}:
                bad("relief", value, reloads, bases, cells, told)
            bad("relief", saves, value, bases, cells, told)
            bad("relief", saves, reloads, value, cells, told)
            bad("relief", saves, reloads, bases, cells, value)
            bad(value, saves, reloads, bases, cells, told)
            if type(value) is not int or not 1 <= value <= 24:
                bad("relief", saves, reloads, bases, value, told)
            if type(value) is not int or not 0 <= value <= 10**7:
                bad("relief", {"a": value}, reloads, bases, cells, told)
                bad("relief", saves, {("a", 1): value}, bases, cells, told)
            if type(value) is not int or value != 0:
                bad("relief", saves, reloads, {**bases, "a:1": value}, cells, told)
                bad("relief", saves, reloads, bases, cells, {"a": value})
        bad("relief", {"a": 10**7 + 1}, reloads, bases, cells, told)
        bad("relief", saves, {("a", 1): -1}, bases, cells, told)
        bad("relief", {}, reloads, bases, cells, told)
        bad("relief", saves, {}, {"a:0": 0, "put.0:0": 0}, cells, told)
        bad("relief", {**saves, "put.0": 3}, reloads, bases, cells, {**told, "put.0": 0})
        for gap in (("a", 0), ("a", 2), ("a", True), ("put.0", 2), ("put", 1), ("x", 1), "a", ("a",), ("a", 1, 0), (None, 1)):
            bad("relief", saves, {gap: 6}, bases, cells, told)
        bad("relief", saves, reloads, {"a:0": 0, "put.0:0": 0}, cells, told)
        bad("relief", saves, reloads, {**bases, "put.0:1": 0}, cells, told)
        bad("relief", saves, reloads, {**bases, "a:1": 1}, cells, told)
        bad("relief", saves, reloads, bases, 0, told)
        bad("relief", saves, reloads, bases, cells, {})
        bad("relief", saves, reloads, bases, cells, {**told, "put.0": 0})
        bad("relief", saves, reloads, bases, 24, {"a": 24})
        bad(*KEEP_RELIEF, 0)
        bad(*KEEP_RELIEF[:5])
        refused(self, InvalidArgument, kernel_with, KEEP, 4, KEEP_STARTS, 1, list(KEEP_RELIEF))
        self.assertIsInstance(kernel_with(KEEP, 4, KEEP_STARTS, 1, KEEP_RELIEF), Kernel)

    def test_starts_must_fit_a_relief(self):
        relief = ("relief", {}, {}, {f"{text}:0": 0 for text in STARTS}, 0, {})
        self.assertEqual(kernel_with(JOB, 2, STARTS, 4, relief).moves, 0)
        refused(self, InvalidArgument, kernel_with, JOB, 2, {**STARTS, "sum": 4}, 4, relief)
        refused(self, InvalidArgument, kernel_with, JOB, 2, {**STARTS, "sum": 10**6, "mul": 0}, 4, relief)

    def test_nothing_is_changed(self):
        relief = ("relief", {"a": 3}, {("a", 1): 6}, {"put.0:0": 0, "a:1": 0, "a:0": 0}, 1, {"a": 0})
        kernel_with(KEEP, 4, KEEP_STARTS, 1, relief)
        self.assertEqual([list(part) for part in relief[1:4]], [["a"], [("a", 1)], ["put.0:0", "a:1", "a:0"]])
        moves = Moves(points_of(KEEP, 4, KEEP_STARTS), {"a": 2}, {("a", 1): 6})
        self.assertEqual(len(moves), 2)
        machine = SecondMachine(kernel_with(KEEP, 4, KEEP_STARTS, 1, KEEP_RELIEF), 3)
        self.assertEqual(machine.finds["put.0", 0], (("a", -2),))


if __name__ == "__main__":
    unittest.main()
