"""Across the whole program: from bodies to ways, lives, reliefs, kernels and their runs; what is promised of all of it."""

import unittest

from loopfoundry.code.checks import does_right, least_wrong_run, long_readings, wrong_findings
from loopfoundry.code.kernels import Kernel
from loopfoundry.code.making import kernel_of, kernel_with
from loopfoundry.covers.covers import cheapest
from loopfoundry.errors import FoundryError, TooMany
from loopfoundry.few.making import points_of
from loopfoundry.few.moves import Moves
from loopfoundry.few.papers import fewest_registers, is_least_paper, is_relief_paper, least_paper, relief_paper
from loopfoundry.files.lives import lives_of
from loopfoundry.files.turning import file_paper, least_registers
from loopfoundry.jobs.jobs import Job
from loopfoundry.jobs.runs import is_right, is_wrong_thing, least_wrong, timed_run
from loopfoundry.machine.machines import Machine
from loopfoundry.plans.plans import is_plan
from loopfoundry.search.frontier import frontier, least_interval
from loopfoundry.search.ways import has_way, is_way_paper, way_paper
from loopfoundry.source.bodies import Body
from loopfoundry.wide.bodies import copied_starts, peeled, peeled_job, unrolled, unrolled_job
from loopfoundry.wide.free import free_interval, ratio
from tests.helpers import CHIP, DOT, PAIRS, draw_body, draw_job, fitting_starts, seeded, symbols, unit_machine
from tests.kernel_helpers import drawn, operand_kernel, plan_kernel, relief_kernel, second_wrong


def draw_way(random, interval):
    """A job and a plan of it, found by the search; None if there is none."""
    body, machine = draw_body(random, limit=8, spread=3), unit_machine(random, chance=0.3)
    try:
        paper = way_paper(body, machine, interval)
    except TooMany:
        return None
    if paper[0] == "bar":
        return None
    return Job(body, machine, paper[1]), paper[2]


class FromBodiesToRunsTest(unittest.TestCase):
    def test_ways_lives_bases_kernels_and_runs(self):
        random, done = seeded(920), 0
        while done < 120:
            interval = random.randint(1, 8)
            way = draw_way(random, interval)
            if way is None:
                continue
            job, starts = way
            lives = lives_of(job, interval, starts)
            registers = max(1, least_registers(lives))
            if registers > 24 or max(starts.values()) // interval > 63:
                continue
            done += 1
            kernel = kernel_of(job, interval, starts, registers, file_paper(lives, registers)[1])
            rounds = random.randint(0, 9)
            plain = job.run(rounds, *symbols())
            self.assertEqual(kernel.played(rounds, *symbols()), plain)
            self.assertEqual(timed_run(job, interval, starts, rounds, *symbols()), plain)
            scalars, cells = job.body.run(rounds, *symbols())
            self.assertEqual({name: plain[0][name] for name in scalars}, scalars)
            self.assertEqual(plain[1], cells)
            self.assertIs(does_right(kernel), True)
            units = job.machine.units
            self.assertTrue(all(many <= units[at[0]] for at, many in kernel.asked.items()))
            self.assertEqual(long_readings(kernel), {(t, k): one for t in job for k, one in enumerate(job.operands(t))})

    def test_plans_points_reliefs_and_kernels_with_moves(self):
        random, done, fewer = seeded(921), 0, 0
        while done < 40:
            interval = random.randint(2, 8)
            way = draw_way(random, interval)
            if way is None:
                continue
            job, starts = way
            points = points_of(job, interval, starts)
            if not 1 <= len(points.gaps) <= 6 or max(starts.values()) // interval > 60:
                continue
            plain = least_registers(lives_of(job, interval, starts))
            fewest = fewest_registers(points)
            if fewest is None:
                continue
            done += 1
            fewer += fewest < plain
            self.assertLessEqual(fewest, max(1, plain))
            for registers in {fewest, min(24, fewest + 1)}:
                paper = relief_paper(points, registers)
                self.assertIs(is_relief_paper(points, registers, paper), True)
                told = least_paper(points, registers)
                self.assertIs(is_least_paper(points, registers, told), True)
                for relief in (paper, told[1]):
                    kernel = kernel_with(job, interval, starts, registers, relief)
                    rounds = random.randint(0, 9)
                    self.assertIs(does_right(kernel), True)
                    self.assertEqual(kernel.played(rounds, *symbols()), job.run(rounds, *symbols()))
                    units = job.machine.units
                    self.assertTrue(all(many <= units[at[0]] for at, many in kernel.asked.items()))
            self.assertEqual(relief_paper(points, fewest - 1)[0] if fewest > 1 else "tree", "tree")
        self.assertGreater(fewer, 5)

    def test_starts_and_the_kernels_that_are_made_of_them(self):
        random, wrong = seeded(922), 0
        for kernel in drawn(random, lambda r: operand_kernel(r, most=2, spread=9), 250):
            job, interval, starts = kernel.job, kernel.interval, kernel.starts
            told = least_wrong(job, interval, starts)
            self.assertEqual(least_wrong_run(kernel), told)
            self.assertIs(is_right(job, interval, starts), does_right(kernel))
            if told is not None:
                wrong += 1
                self.assertIs(is_wrong_thing(job, interval, starts, *told), True)
        self.assertGreater(wrong, 10)

    def test_peeled_and_unrolled_kernels(self):
        random, done = seeded(923), 0
        while done < 40:
            job, interval, copies = draw_job(random, limit=8), random.randint(1, 6), random.randint(1, 3)
            starts = fitting_starts(random, job, interval)
            if starts is None or len(job.body.operations) * copies > 24 or copies * interval > 32:
                continue
            wide = peeled_job(unrolled_job(job, copies), random.randint(0, 5))
            told = copied_starts(job, interval, starts, copies)
            lives = lives_of(wide, copies * interval, told)
            registers = max(1, least_registers(lives))
            if registers > 24 or max(told.values()) // (copies * interval) > 63:
                continue
            done += 1
            kernel = kernel_of(wide, copies * interval, told, registers, file_paper(lives, registers)[1])
            self.assertIs(does_right(kernel), True)
            self.assertEqual(kernel.played(4, *symbols()), wide.run(4, *symbols()))


class FalseSentencesTest(unittest.TestCase):
    def test_right_for_long_and_wrong_in_the_end(self):
        body = Body(("store", "put", "x", 1, 0, ("op", "f", ("load", "x", 2, -400))))
        job = Job(body, CHIP, {"put": "put", "put.0": "f", "put.0.0": "get"})
        kernel = kernel_of(job, 3, {"put": 3, "put.0": 2, "put.0.0": 0}, 1, {"put.0": 0, "put.0.0": 0})
        self.assertEqual(list(wrong_findings(kernel, 300)), [])
        self.assertEqual(least_wrong_run(kernel)[0], 400)

    def test_the_cheapest_cover_has_not_the_least_interval(self):
        machine = CHIP.with_units({"alu": 2, "mem": 2})
        cover = cheapest(DOT, machine)
        rows = frontier(DOT, machine)
        self.assertEqual((rows, len(cover)), (((1, 4),), 3))
        slow = Machine.from_lines("unit u 1", "pattern all 1 0 u 0 u 1 : f ( g ( _ ) )", "pattern f 1 1 : f ( _ )", "pattern g 1 1 : g ( _ )")
        body = Body(("set", "a", ("op", "f", ("op", "g", ("at", "a", 3)))))
        self.assertEqual((frontier(body, slow), cheapest(body, slow)), (((1, 2), (2, 0)), {"a": "all"}))

    def test_unrolling_below_the_ratio(self):
        # With growing meetings the mean interval can fall below the ratio of the rings.
        job = Job(Body(("store", "put", "x", 2, 0, ("op", "f", ("load", "x", 1, 0)))), Machine.from_lines("pattern all 3 1 : = f ( @ )"), {"put": "all"})
        self.assertEqual((ratio(job), [free_interval(job, copies=u) for u in (1, 2, 3, 4)]), ((3, 1), [3, 3, 6, 3]))

    def test_a_slower_pattern_gives_a_plan(self):
        body = Body(("set", "y", ("op", "f", ("load", "a", 1, 0), ("at", "z", 1))), ("store", "s", "a", 1, 0, ("at", "z", 2)), ("set", "z", ("op", "g", ("load", "a", 1, 0))))
        lines = ("unit p 1", "pattern f 1 1 p 0 : f ( @ _ )", "pattern g 1 1 : g ( @ )")
        machines = [Machine.from_lines(*lines, f"pattern put {ticks} 1 p 0 : = _") for ticks in (1, 2)]
        self.assertEqual([least_interval(body, machine) for machine in machines], [3, 2])
        self.assertEqual([has_way(body, machine, 2) for machine in machines], [False, True])


class StateTest(unittest.TestCase):
    def test_elder_objects_stay_as_they_were(self):
        random = seeded(924)
        for kernel, relief in drawn(random, relief_kernel, 15):
            job, interval, starts = kernel.job, kernel.interval, kernel.starts
            body, machine, cover = job.body, job.machine, job.cover
            points = points_of(job, interval, starts)
            moves = Moves(points, relief[1], relief[2])
            before = (body.statements, machine.lines, cover, job.arcs, points.rows, moves.stays, kernel.rows, kernel.asked)
            kernel.later(3), kernel.rolled(registers=1, cells=1), peeled(body, 5), points + 7
            least_wrong_run(kernel), long_readings(kernel), list(wrong_findings(kernel, 9)), ratio(job)
            if len(body.operations) <= 12:
                unrolled(body, 2), unrolled_job(job, 2), copied_starts(job, interval, starts, 2)
            for part in (kernel.starts, job.cover, points.rows, moves.area, moves.reloads):
                part.clear()
            after = (body.statements, machine.lines, job.cover, job.arcs, points.rows, moves.stays, kernel.rows, kernel.asked)
            self.assertEqual(before, after)
            self.assertEqual(kernel, kernel_with(job, interval, starts, kernel.registers, relief))

    def test_equal_calls_return_equal_results(self):
        random = seeded(925)
        for kernel in drawn(random, plan_kernel, 20):
            rounds = random.randint(0, 6)
            self.assertEqual(kernel.played(rounds, *symbols()), kernel.played(rounds, *symbols()))
            self.assertEqual(least_wrong_run(kernel), least_wrong_run(kernel))
            same = Kernel(kernel.job, kernel.interval, kernel.registers, kernel.cells, kernel.rows)
            self.assertEqual((same, second_wrong(same, rounds)), (kernel, []))

    def test_calls_that_raise_change_nothing(self):
        rows = (("op", "mul", 9),)
        cover = {"mul": "mulld", "mul.1": "get", "sum": "add"}
        job = Job(DOT, CHIP, cover)
        starts = {"mul": 3, "mul.1": 0, "sum": 7}
        for call in (
            lambda: Kernel(job, 2, 4, 0, rows),
            lambda: kernel_of(job, 2, starts, 4, {"mul": 9}),
            lambda: kernel_with(job, 2, starts, 4, ("relief", {}, {}, {}, 0, {})),
            lambda: copied_starts(job, 2, {**starts, "mul": -1}, 2),
            lambda: relief_paper(points_of(job, 2, {**starts, "sum": 5}), 2),
        ):
            with self.assertRaises(FoundryError):
                call()
        self.assertEqual((rows, cover, starts), ((("op", "mul", 9),), {"mul": "mulld", "mul.1": "get", "sum": "add"}, {"mul": 3, "mul.1": 0, "sum": 7}))
        self.assertIs(is_plan(job, 2, starts), True)
        self.assertIs(is_way_paper(DOT, CHIP, 2, ("way", cover, starts), most=4), True)
        self.assertEqual(PAIRS.names, ("put",))


if __name__ == "__main__":
    unittest.main()
