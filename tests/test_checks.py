"""Checks of kernels, held against a machine that the tests keep, event by event, and against the cells far away."""

import unittest

from loopfoundry.code.checks import (
    does_right,
    enough_rounds,
    findings,
    is_wrong_finding,
    least_wrong_run,
    long_readings,
    wrong_findings,
)
from loopfoundry.code.kernels import Kernel
from loopfoundry.code.making import kernel_of, kernel_with
from loopfoundry.errors import InvalidKernel
from loopfoundry.jobs.jobs import Job
from loopfoundry.jobs.runs import least_wrong
from loopfoundry.machine.machines import Machine
from loopfoundry.source.bodies import Body
from tests.helpers import CHIP, DOT, PAIRS, odd_values, refused, refuses_name, refuses_number, seeded, symbols
from tests.kernel_helpers import SecondMachine, bent_kernel, draw_kernel, drawn, operand_kernel, plan_kernel, relief_kernel
from tests.kernel_helpers import second_wrong

JOB = Job(DOT, CHIP, {"mul": "mul", "mul.0": "get", "mul.1": "get", "sum": "add"})
KERNEL = kernel_of(JOB, 2, {"mul": 3, "mul.0": 0, "mul.1": 1, "sum": 6}, 4, {"mul": 0, "mul.0": 0, "mul.1": 1, "sum": 0})
CHAIN = Job(PAIRS, CHIP, {"put": "put", "put.0": "f", "put.0.0": "get"})
HURRY = kernel_of(CHAIN, 3, {"put": 3, "put.0": 2, "put.0.0": 0}, 1, {"put.0": 0, "put.0.0": 0})
ONES = Machine.from_lines("pattern h 1 1 : h ( )", "pattern k 1 1 : k ( _ )", "pattern put 1 1 : = _", "pattern get 2 1 : @")


def mixed_kernels(number, many):
    """Drawn kernels: of any rows, of plans, of reliefs, and these with one thing changed."""
    random = seeded(number)
    kernels = [draw_kernel(random, wrong=random.choice((0, 0.2))) for _ in range(many)]
    kernels += drawn(random, lambda r: operand_kernel(r, most=2, spread=9), 2 * many)
    right = drawn(random, plan_kernel, many) + [kernel for kernel, _ in drawn(random, relief_kernel, many)]
    bent = [bent_kernel(random, kernel) for kernel in right for _ in range(3)]
    return random, kernels + right + [kernel for kernel in bent if kernel is not None]


def through(body, machine, cover, rows, interval=1, registers=1, cells=1):
    return Kernel(Job(body, machine, cover), interval, registers, cells, rows)


class DrawnKernelsTest(unittest.TestCase):
    def test_findings(self):
        random, kernels = mixed_kernels(850, 50)
        for kernel in kernels:
            rounds = random.randint(1, 8)
            machine = SecondMachine(kernel, rounds)
            for (text, k), told in machine.finds.items():
                self.assertEqual(findings(kernel, rounds, text, k), told)

    def test_wrong_findings(self):
        random, kernels = mixed_kernels(851, 50)
        many = 0
        for kernel in kernels:
            rounds = random.randint(0, 8)
            rows = second_wrong(kernel, rounds)
            self.assertEqual(list(wrong_findings(kernel, rounds)), rows)
            longer = second_wrong(kernel, rounds + 3)
            self.assertLessEqual({row[:4] for row in rows}, {row[:4] for row in longer})
            for row in rows[:20]:
                self.assertIs(is_wrong_finding(kernel, rounds, row), True)
                self.assertIs(is_wrong_finding(kernel, row[2], row), False)
            for row in longer[:20]:
                self.assertIs(is_wrong_finding(kernel, rounds, row), row in rows)
            many += len(rows)
        self.assertGreater(many, 1000)

    def test_the_least_wrong_run(self):
        _, kernels = mixed_kernels(852, 80)
        told = {"right": 0, "first": 0, "later": 0}
        for kernel in kernels:
            least = least_wrong_run(kernel)
            self.assertIs(does_right(kernel), least is None)
            if least is None:
                told["right"] += 1
                self.assertEqual(second_wrong(kernel, 15), [])
                continue
            rounds, finding = least
            told["first" if rounds == 1 else "later"] += 1
            if rounds < 100:
                self.assertEqual(second_wrong(kernel, rounds - 1), [])
                self.assertEqual(second_wrong(kernel, rounds)[0], finding)
            self.assertIs(is_wrong_finding(kernel, rounds, finding), True)
            self.assertIs(is_wrong_finding(kernel, rounds - 1, finding), False)
        self.assertGreater(min(told.values()), 5)

    def test_long_readings_by_long_runs(self):
        _, kernels = mixed_kernels(853, 25)
        none = 0
        for kernel in kernels:
            readings, enough = long_readings(kernel), enough_rounds(kernel)
            wanted = [(text, k) for text in kernel.job.operations for k in range(len(kernel.job.operands(text)))]
            self.assertEqual(list(readings), wanted)
            if enough > 60:
                continue
            rounds = enough + 5
            finds = SecondMachine(kernel, rounds).finds
            for (text, index), reading in readings.items():
                for k in range(rounds):
                    found = finds[text, k][index]
                    if reading is None:
                        self.assertIsNone(found)
                        none += 1
                    elif enough - kernel.stages <= k <= rounds - kernel.stages:
                        self.assertEqual(found, (reading[0], k - reading[1]))
        self.assertGreater(none, 100)

    def test_enough_rounds(self):
        _, kernels = mixed_kernels(854, 60)
        for kernel in kernels:
            kinds = [one[0] for row in kernel.rows for one in row]
            v = min(kinds.count("save"), kinds.count("reload"))
            enough = 2 * kernel.stages + kernel.registers + 2 + v * (kernel.registers + kernel.cells + 6)
            self.assertEqual(enough_rounds(kernel), enough)
            operands = [index < len(kernel.job.operands(text)) for _, text, _, index, _ in wrong_findings(kernel, min(enough, 300))]
            readings = long_readings(kernel)
            right = all(readings[text, k] == one for text in kernel.job for k, one in enumerate(kernel.job.operands(text)))
            if enough <= 300:
                self.assertIs(any(operands), not right)
                self.assertIs(any(index < len(kernel.job.operands(text)) for _, text, _, index, _ in wrong_findings(kernel, min(300, enough + 20))), not right)

    def test_starts_against_their_kernel(self):
        random, far = seeded(855), 0
        for kernel in drawn(random, lambda r: operand_kernel(r, most=2, spread=9), 300):
            told = least_wrong_run(kernel)
            self.assertEqual(told, least_wrong(kernel.job, kernel.interval, kernel.starts))
            far += told is not None and told[0] > 2
        self.assertGreater(far, 3)


class FarTest(unittest.TestCase):
    def far(self, step, offset, load_step, put, get, interval):
        body = Body(("store", "put", "x", step, offset, ("op", "k", ("load", "x", load_step, 0))))
        job = Job(body, ONES, {"put": "put", "put.0": "k", "put.0.0": "get"})
        starts = {"put": put, "put.0": get + 2, "put.0.0": get}
        return kernel_of(job, interval, starts, 24, {"put.0": 0, "put.0.0": 8})

    def test_by_the_equation_of_the_cells(self):
        random, found = seeded(860), 0
        for _ in range(300):
            step, load_step = random.randint(1, 4), random.randint(0, 4)
            far = random.randint(10**27, 10**28)
            offset, interval = random.choice((far, -far)), random.randint(1, 4)
            get = random.randint(0, 9)
            put = get + random.randint(3, 12)
            kernel = self.far(step, offset, load_step, put, get, interval)
            told = least_wrong_run(kernel)
            self.assertIs(does_right(kernel), told is None)
            if told is None:
                continue
            found += 1
            rounds, (tick, text, number, index, finds) = told
            self.assertEqual((text, index, tick), ("put.0.0", 0, get + interval * number))
            store = (load_step * number - offset) // step if finds is None else finds[1]
            self.assertEqual(step * store + offset, load_step * number)
            self.assertEqual(rounds, 1 + (number if finds is None else store))
            self.assertEqual(findings(kernel, rounds, text, number), (finds,))
            self.assertIs(is_wrong_finding(kernel, rounds, told[1]), True)
            self.assertIs(is_wrong_finding(kernel, rounds + 10**20, told[1]), True)
            self.assertIs(is_wrong_finding(kernel, rounds - 1, told[1]), False)
            for back in range(1, 40):
                early = number - back
                if early >= 0 and (load_step * early - offset) % step == 0:
                    other = (load_step * early - offset) // step
                    if 0 <= other and max(early, other) + 1 < rounds:
                        done = put + 1 + interval * other <= get + interval * early
                        self.assertEqual(done, other < early)
        self.assertGreater(found, 20)

    def test_the_examples(self):
        self.assertEqual(least_wrong_run(HURRY), (4, (9, "put.0.0", 3, 0, None)))
        body = Body(("store", "put", "x", 1, 0, ("op", "f", ("load", "x", 2, -(10**20)))))
        kernel = kernel_of(Job(body, CHIP, CHAIN.cover), 3, HURRY.starts, 1, {"put.0": 0, "put.0.0": 0})
        rounds, finding = least_wrong_run(kernel)
        self.assertEqual((rounds, finding), (10**20, (3 * (10**20 - 1), "put.0.0", 10**20 - 1, 0, None)))
        self.assertEqual(findings(kernel, 10**20, "put.0.0", 10**20 - 1), (None,))
        self.assertEqual(findings(kernel, 10**20, "put.0.0", 10**20 - 2), (("put", 10**20 - 4),))

    def test_rounds_that_are_far_away(self):
        last = 10**30 - 1
        for kernel in (KERNEL, HURRY, self.moving()):
            near = SecondMachine(kernel, 60)
            for back in (1, 2, 5, 20):
                for text in kernel.job.operations:
                    found = findings(kernel, last, text, last - back)
                    operands = kernel.job.operands(text)
                    for index in range(len(operands)):
                        one = near.finds[text, 60 - back][index]
                        self.assertEqual(found[index], one and (one[0], one[1] + last - 60))
            for k in (0, 1, 7):
                for text in kernel.job.operations:
                    self.assertEqual(findings(kernel, last, text, k), near.finds[text, k])

    def moving(self):
        body = Body(("set", "a", ("load", "y", 1, 0)), ("store", "put", "z", 1, 0, ("op", "f", ("at", "a", 2))))
        job = Job(body, CHIP, {"a": "get", "put": "put", "put.0": "f"})
        relief = ("relief", {"a": 3}, {("a", 1): 6}, {"a:0": 0, "a:1": 0, "put.0:0": 0}, 1, {"a": 0})
        return kernel_with(job, 4, {"a": 0, "put": 1, "put.0": 0}, 1, relief)


class EdgesTest(unittest.TestCase):
    def test_the_examples(self):
        self.assertEqual((does_right(KERNEL), enough_rounds(KERNEL), least_wrong_run(KERNEL)), (True, 14, None))
        self.assertEqual(long_readings(HURRY), {("put", 0): ("put.0", 0), ("put.0", 0): ("put.0.0", 0)})
        self.assertEqual((findings(HURRY, 4, "put.0.0", 3), findings(HURRY, 4, "put.0.0", 2)), ((None,), (("put", 0),)))
        small = FarTest().moving()
        self.assertEqual(long_readings(small), {("put", 0): ("put.0", 0), ("put.0", 0): ("a", 2)})
        self.assertEqual((does_right(small), enough_rounds(small)), (True, 13))

    def test_no_rounds_and_300(self):
        self.assertEqual(list(wrong_findings(HURRY, 0)), [])
        self.assertEqual(list(wrong_findings(KERNEL, 300)), [])
        rows = list(wrong_findings(HURRY, 300))
        self.assertEqual(rows, second_wrong(HURRY, 300))
        refuses_number(self, 301, lambda: next(wrong_findings(HURRY, 301)))
        refuses_number(self, 5, findings, HURRY, 0, "put", 5)

    def test_two_equal_trees(self):
        # Each is read for the other one: all values and cells are right, the findings are not.
        body = Body(("set", "a", ("op", "h")), ("set", "b", ("op", "h")), ("set", "c", ("op", "k", ("at", "a", 0))), ("set", "d", ("op", "k", ("at", "b", 0))))
        job = Job(body, ONES, {"a": "h", "b": "h", "c": "k", "d": "k"})
        good = kernel_of(job, 2, {"a": 0, "b": 0, "c": 1, "d": 1}, 4, {"a": 0, "b": 1, "c": 2, "d": 3})
        a, b, c, d = [good[text] for text in "abcd"]
        bad = Kernel(job, 2, 4, 0, ((a, b), ((*c[:4], d[4], ()), (*d[:4], c[4], ()))))
        self.assertIs(does_right(good), True)
        self.assertIs(does_right(bad), False)
        self.assertEqual(bad.played(9, *symbols()), job.run(9, *symbols()))
        self.assertEqual(least_wrong_run(bad), (1, (1, "c", 0, 0, ("b", 0))))

    def test_one_register_more_with_the_same_windows(self):
        right = [kernel for kernel in drawn(seeded(861), plan_kernel, 80) if kernel.registers < 24]
        changed = 0
        for kernel in right:
            more = Kernel(kernel.job, kernel.interval, kernel.registers + 1, kernel.cells, kernel.rows)
            changed += not does_right(more)
            least = least_wrong_run(more)
            if least is not None:
                self.assertEqual(second_wrong(more, least[0])[0], least[1])
        self.assertGreater(changed, 5)

    def test_saves_without_reloads_and_reloads_without_saves(self):
        body = Body(("set", "a", ("op", "k", ("at", "a", 1))))
        start = ("op", "a", 0, 0, (0,), ())
        cover = {"a": "k"}
        saving = through(body, ONES, cover, ((start, ("save", 0, 0)),))
        self.assertEqual((does_right(saving), enough_rounds(saving)), (True, 5))
        reloading = through(body, ONES, cover, ((start, ("reload", 0, 0)),))
        # What is never saved is nothing, and writes over all values in each pass.
        self.assertEqual(long_readings(reloading), {("a", 0): None})
        self.assertEqual(least_wrong_run(reloading), (1, (0, "a", 0, 0, None)))
        both = through(body, ONES, cover, ((start, ("save", 0, 0), ("reload", 0, 0)),))
        self.assertEqual(enough_rounds(both), 2 + 1 + 2 + 8)
        for kernel in (saving, reloading, both):
            self.assertEqual(list(wrong_findings(kernel, 20)), second_wrong(kernel, 20))

    def test_moves_in_a_circle(self):
        # A save and a reload that carry nothing but what the other one carried.
        body = Body(("set", "a", ("op", "k", ("at", "a", 1))))
        job = Job(body, ONES, {"a": "k"})
        rows = ((("op", "a", 0, 0, (1,), ()), ("save", 1, 0)), (("reload", 0, 1),), ())
        kernel = Kernel(job, 3, 2, 1, rows)
        finds = SecondMachine(kernel, 40).finds
        for k in (0, 1, 2, 20, 39):
            self.assertEqual(findings(kernel, 40, "a", k), finds["a", k])
        self.assertEqual(list(wrong_findings(kernel, 12)), second_wrong(kernel, 12))

    def test_a_value_that_is_carried_behind_the_last_round(self):
        # In each pass the value goes through the cell into the next register, which the operation writes over
        # as long as it is done; a late reading finds what its last round wrote, many passes before.
        body = Body(("set", "a", ("op", "h")), ("set", "b", ("op", "k", ("at", "a", 0))))
        job = Job(body, ONES, {"a": "h", "b": "k"})
        for registers in (2, 3, 5):
            for cells in (1, 2, 4):
                for stage in (1, 7, 20, 40):
                    rows = (
                        (("op", "a", 0, 0, (), ()),),
                        (("op", "b", stage, registers - 1 if registers > 2 else 1, (0,), ()),),
                        (("save", 0, 0),),
                        (("reload", 0, 1),),
                    )
                    kernel = Kernel(job, 4, registers, cells, rows)
                    rounds = stage + 9
                    finds = SecondMachine(kernel, rounds, early=90).finds
                    for k in range(rounds):
                        self.assertEqual(findings(kernel, rounds, "b", k), finds["b", k])
                    far = findings(kernel, 10**29, "b", 10**29 - 1)[0]
                    one = finds["b", rounds - 1][0]
                    self.assertEqual(far, one and (one[0], one[1] + 10**29 - rounds))
                    self.assertEqual(list(wrong_findings(kernel, rounds)), second_wrong(kernel, rounds))

    def test_two_stores_of_one_cell(self):
        body = Body(("store", "s", "x", 2, 0, ("op", "h")), ("store", "v", "x", 2, 1, ("op", "h")), ("set", "y", ("load", "x", 2, 0)))
        wide = Machine.from_lines("pattern put 1 1 : = h ( )", "pattern late 3 1 : = h ( )", "pattern get 1 1 : @")
        random, both = seeded(864), 0
        for _ in range(120):
            job = Job(body, wide, {"s": random.choice(("put", "late")), "v": random.choice(("put", "late")), "y": "get"})
            rows = [[] for _ in range(random.randint(1, 4))]
            for text, many in (("s", 2), ("v", 2), ("y", 0)):
                stage = random.randint(0, 2)
                offset = -2 * stage + (random.choice((0, 1, 2, -2)) if many else 0)
                one = ("op", text, stage, None if many else 0, (), (offset,))
                row = random.choice(rows)
                row.insert(random.randint(0, len(row)), one)
            kernel = Kernel(job, len(rows), 1, 0, tuple(map(tuple, rows)))
            machine = SecondMachine(kernel, 6)
            for (text, k), told in machine.finds.items():
                self.assertEqual(findings(kernel, 6, text, k), told)
            self.assertEqual(list(wrong_findings(kernel, 6)), second_wrong(kernel, 6))
            both += len(machine.memory) < 12
        self.assertGreater(both, 40)

    def test_a_value_that_is_moved_many_times(self):
        body = Body(("set", "a", ("op", "h")), ("set", "b", ("op", "k", ("at", "a", 3))))
        job = Job(body, ONES, {"a": "h", "b": "k"})
        # The value goes from register to cell and back, a window farther each time.
        chain = []
        for k in range(12):
            chain += [("save", k, k), ("reload", k, k + 1)]
        random = seeded(862)
        for _ in range(12):
            interval = random.choice((1, 2, 3, 5))
            rows = [[] for _ in range(interval)]
            rows[0] += [("op", "a", 0, 0, (), ()), ("op", "b", random.randint(0, 9), 14, (random.randint(0, 12),), ())]
            for one in chain:
                random.choice(rows).append(one)
            kernel = Kernel(job, interval, 24, 24, tuple(map(tuple, rows)))
            enough = enough_rounds(kernel)
            self.assertEqual(enough, 2 * kernel.stages + 26 + 12 * 54)
            rounds = 120
            finds = SecondMachine(kernel, rounds, early=60).finds
            for k in (0, 1, 2, 5, 11, 30, 60, 117, 118, 119):
                self.assertEqual(findings(kernel, rounds, "b", k), finds["b", k])
            reading = long_readings(kernel)["b", 0]
            found = findings(kernel, 10**29, "b", 10**28)[0]
            self.assertEqual(found, reading and (reading[0], 10**28 - reading[1]))
            least = least_wrong_run(kernel)
            self.assertIs(does_right(kernel), least is None)
            if least is not None and least[0] < 60:
                self.assertEqual((second_wrong(kernel, least[0])[0], second_wrong(kernel, least[0] - 1)), (least[1], []))

    def test_cells_of_stores_and_loads(self):
        rows = [list(row) for row in HURRY.rows]
        for text, index in (("put", 1), ("put.0.0", 0)):
            for by in (1, -7, 10**40):
                slot = HURRY.starts[text] % 3
                at = HURRY.rows[slot].index(HURRY[text])
                new = [list(row) for row in rows]
                new[slot][at] = (*HURRY[text][:5], (HURRY[text][5][0] + by,))
                kernel = Kernel(CHAIN, 3, 1, 0, tuple(map(tuple, new)))
                cell = (0 if text == "put" else -4) + by
                least = (1, (HURRY.starts[text], text, 0, index, cell))
                self.assertEqual(least_wrong_run(kernel), least)
                self.assertEqual(list(wrong_findings(kernel, 5)), second_wrong(kernel, 5))
                self.assertIs(is_wrong_finding(kernel, 1, least[1]), True)
                self.assertIs(is_wrong_finding(kernel, 1, (*least[1][:4], cell + 1)), False)
                self.assertIs(is_wrong_finding(kernel, 1, (*least[1][:4], True)), False)

    def test_wrong_findings_that_are_bent(self):
        rounds, finding = least_wrong_run(HURRY)
        self.assertIs(is_wrong_finding(HURRY, rounds, finding), True)
        for word in HURRY:
            for k in range(rounds):
                for place, one in enumerate(findings(HURRY, rounds, word, k)):
                    value = (HURRY.starts[word] + 3 * k, word, k, place, one)
                    self.assertIs(is_wrong_finding(HURRY, rounds, value), value == finding)
        tick, text, number, index, _ = finding
        bent = [(tick + 1, *finding[1:]), (tick, "put", *finding[2:]), (tick, text, number + 1, index, None), (tick, text, number, 1, None)]
        bent += [(tick, text, number, -1, None), (*finding[:4], ("put", 2)), (*finding[:4], ("put", True)), (*finding[:4], 0), finding[:4]]
        bent += [(*finding, 0), list(finding), (tick, text, number, False, None), (tick, text, True, index, None), (*finding[:4], False)]
        bent += [(tick, text, number, index, ()), (tick, None, number, index, None), (tick, [], number, index, None)]
        for value in [*odd_values(), *bent]:
            self.assertIs(is_wrong_finding(HURRY, rounds, value), False, value)
        for k in range(5):
            for value in odd_values():
                if not (value is finding[k] or (type(value) is type(finding[k]) and value == finding[k])):
                    self.assertIs(is_wrong_finding(HURRY, rounds, (*finding[:k], value, *finding[k + 1 :])), False)


class LateOperandsTest(unittest.TestCase):
    def test_operands_that_go_wrong_late(self):
        # What overwrites a value early is no first value, so it is not there in the first rounds.
        random, late = seeded(863), 0
        body = Body(("set", "a", ("op", "h")), ("set", "b", ("op", "k", ("op", "k", ("at", "a", 3)))), ("store", "s", "x", 1, 0, ("op", "k", ("op", "h"))))
        cover = {"a": "h", "b": "k", "b.0": "k", "s": "put", "s.0": "k", "s.0.0": "h"}
        job = Job(body, ONES, cover)
        starts = {"a": 0, "b.0": 1, "b": 2, "s.0.0": 1, "s.0": 2, "s": 3}
        for _ in range(600):
            registers, interval = random.randint(4, 20), random.randint(1, 3)
            more = random.randint(0, 12)
            later = {text: start + (more if text[0] == "s" else 0) for text, start in starts.items()}
            bases = {text: random.randrange(registers) for text in job.valued}
            kernel = kernel_of(job, interval, later, registers, bases)
            least = least_wrong_run(kernel)
            if least is not None and least[0] > 1:
                late += 1
                self.assertEqual(second_wrong(kernel, least[0] - 1), [])
                self.assertEqual(second_wrong(kernel, least[0])[0], least[1])
                self.assertLessEqual(least[0], enough_rounds(kernel))
        self.assertGreater(late, 30)


    def test_operands_and_loads_that_go_wrong_late(self):
        random, told = seeded(865), {"operand": 0, "load": 0, "both": 0}
        for _ in range(1500):
            offset = -random.randint(0, 14)
            body = Body(
                ("set", "a", ("op", "h")),
                ("set", "b", ("op", "k", ("op", "k", ("at", "a", 3)))),
                ("store", "s", "x", 1, 0, ("op", "k", ("load", "x", 2, offset))),
            )
            job = Job(body, ONES, {"a": "h", "b": "k", "b.0": "k", "s": "put", "s.0": "k", "s.0.0": "get"})
            registers, interval, more = random.randint(4, 20), random.randint(1, 3), random.randint(0, 12)
            starts = {"a": 0, "b.0": 1, "b": 2, "s.0.0": more, "s.0": more + 2, "s": more + 3 + random.randint(0, 9)}
            bases = {text: random.randrange(registers) for text in job.valued}
            kernel = kernel_of(job, interval, starts, registers, bases)
            least = least_wrong_run(kernel)
            if least is None or least[0] == 1:
                continue
            rows = second_wrong(kernel, least[0] + 12)
            kinds = {row[1] == "s.0.0" for row in rows}
            told["both" if len(kinds) == 2 else "load" if True in kinds else "operand"] += 1
            self.assertEqual(second_wrong(kernel, least[0] - 1), [])
            self.assertEqual(second_wrong(kernel, least[0])[0], least[1])
        self.assertGreater(min(told.values()), 8)


class WrongArgumentsTest(unittest.TestCase):
    def test_arguments(self):
        for value in odd_values():
            is_round = type(value) is int and 0 <= value < 10**30
            if not isinstance(value, Kernel):
                refused(self, InvalidKernel, findings, value, -1, None, None)
                refused(self, InvalidKernel, lambda: next(wrong_findings(value, -1)))
                refused(self, InvalidKernel, is_wrong_finding, value, -1, None)
                for call in (long_readings, enough_rounds, does_right, least_wrong_run):
                    refused(self, InvalidKernel, call, value)
            if not is_round:
                refuses_number(self, value, findings, KERNEL, value, None, None)
                refuses_number(self, value, is_wrong_finding, KERNEL, value, None)
            if not is_round or value > 300:
                refuses_number(self, value, lambda: next(wrong_findings(KERNEL, value)))
            refuses_name(self, value, findings, KERNEL, 3, value, None)
            if not is_round or value > 2:
                refuses_number(self, value, findings, KERNEL, 3, "sum", value)
        wrong_findings(None, None)
        self.assertEqual(KERNEL.starts, {"mul": 3, "mul.0": 0, "mul.1": 1, "sum": 6})


if __name__ == "__main__":
    unittest.main()
