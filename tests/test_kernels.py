"""Kernels: what they tell of themselves, and their runs, held against a machine that the tests keep."""

import unittest

from loopfoundry.code.kernels import Kernel
from loopfoundry.errors import InvalidJob, InvalidKernel, TooMany, UnknownName
from loopfoundry.jobs.jobs import Job
from loopfoundry.machine.machines import Machine
from loopfoundry.source.bodies import Body
from tests.helpers import CHIP, DOT, PAIRS, ascending, odd_values, refused, refuses_name, refuses_number, seeded, symbols
from tests.kernel_helpers import SecondMachine, bent_kernel, draw_kernel, drawn, plan_kernel, relief_kernel

JOB = Job(DOT, CHIP, {"mul": "mul", "mul.0": "get", "mul.1": "get", "sum": "add"})
ROWS = (
    (("op", "mul.0", 0, 0, (), (0,)), ("op", "sum", 3, 1, (0, 1), ())),
    (("op", "mul", 1, 3, (3, 0), ()), ("op", "mul.1", 0, 1, (), (0,))),
)
KERNEL = Kernel(JOB, 2, 4, 0, ROWS)
STORE = Job(PAIRS, CHIP, {"put": "put", "put.0": "f", "put.0.0": "get"})
STORE_ROWS = (
    (("op", "put.0.0", 0, 0, (), (-4,)), ("save", 0, 1), ("op", "put", 1, None, (0,), (-1,))),
    (("reload", 1, 0), ("op", "put.0", 0, 0, (0,), ())),
)
MOVING = Kernel(STORE, 2, 2, 3, STORE_ROWS)
PLAIN = Machine.from_lines("pattern h 1 1 : h ( )", "pattern put 2 1 : = _", "pattern k 1 1 : k ( _ )", "pattern slow 4 1 : g ( _ _ )")


def some_kernels(number, many=60):
    random = seeded(number)
    kernels = [draw_kernel(random) for _ in range(many)]
    kernels += drawn(random, plan_kernel, many // 2) + [kernel for kernel, _ in drawn(random, relief_kernel, many // 2)]
    kernels += [bent for bent in (bent_kernel(random, kernel) for kernel in kernels) if bent is not None]
    return random, kernels


class DrawnKernelsTest(unittest.TestCase):
    def test_attributes(self):
        random, kernels = some_kernels(830)
        for kernel in kernels:
            ops, moves = {}, 0
            for slot, row in enumerate(kernel.rows):
                for one in row:
                    if one[0] == "op":
                        ops[one[1]] = (slot + kernel.interval * one[2], one)
                    else:
                        moves += 1
            self.assertEqual((kernel.starts, list(kernel.starts)), ({text: row[0] for text, row in ops.items()}, sorted(ops)))
            self.assertEqual(kernel.stages, 1 + max(one[2] for _, one in ops.values()))
            self.assertEqual((kernel.moves, len(kernel)), (moves, moves + len(ops)))
            self.assertEqual((list(kernel), tuple(kernel)), (sorted(ops), kernel.job.operations))
            for text in ops:
                self.assertEqual(kernel[text], ops[text][1])
                self.assertIs(text in kernel, True)
            wanted = f"{kernel.interval} rows, {kernel.stages} stages, {kernel.registers} registers, {kernel.cells} cells"
            self.assertEqual(str(kernel), f"kernel of {wanted}")
            same = Kernel.of(kernel.job, kernel.interval, kernel.registers, kernel.cells, *kernel.rows)
            self.assertEqual(kernel, same)

    def test_what_is_asked_slot_by_slot(self):
        for kernel in some_kernels(831)[1]:
            counts, machine = {}, kernel.job.machine
            for tick in range(40 * kernel.interval, 41 * kernel.interval):
                for slot, row in enumerate(kernel.rows):
                    for one in row:
                        uses = kernel.job.uses(one[1]) if one[0] == "op" else getattr(machine, one[0])[1]
                        for unit, offset in uses:
                            if (tick - slot - offset) % kernel.interval == 0:
                                at = (unit, tick % kernel.interval)
                                counts[at] = counts.get(at, 0) + 1
            self.assertEqual((kernel.asked, list(kernel.asked)), (counts, sorted(counts)))

    def test_timelines_guards_and_durations(self):
        random, kernels = some_kernels(832)
        for kernel in kernels:
            rounds = random.randint(0, 9)
            rows = sorted((start + kernel.interval * k, text, k) for text, start in kernel.starts.items() for k in range(rounds))
            self.assertEqual(list(kernel.timeline(rounds)), rows)
            self.assertTrue(ascending(rows))
            for number in range(-3, rounds + kernel.stages + 3):
                stages = {
                    kernel[text][2] for tick, text, _ in rows if tick // kernel.interval == number
                }
                self.assertEqual(kernel.guards(rounds, number), tuple(sorted(stages)))
            if rounds:
                end = max(tick + kernel.job.ticks(text) for tick, text, _ in rows)
                self.assertEqual(kernel.duration(rounds), end - rows[0][0])
            self.assertEqual(kernel.duration(0), 0)

    def test_runs(self):
        random, kernels = some_kernels(833, 120)
        for kernel in kernels:
            rounds = random.randint(0, 7)
            told = kernel.played(rounds, *symbols())
            self.assertEqual(told, SecondMachine(kernel, rounds, told=symbols()).told())
            self.assertEqual((list(told[0]), list(told[1])), (list(kernel.job.valued), sorted(told[1])))

    def test_later_kernels(self):
        random, kernels = some_kernels(834)
        for kernel in kernels:
            ticks, rounds = random.randint(0, 12), random.randint(0, 5)
            later = kernel.later(ticks)
            self.assertEqual(later.starts, {text: start + ticks for text, start in kernel.starts.items()})
            self.assertEqual((later.job, later.registers, later.cells), (kernel.job, kernel.registers, kernel.cells))
            self.assertEqual(later.played(rounds, *symbols()), kernel.played(rounds, *symbols()))
            self.assertEqual(SecondMachine(later, rounds).finds, SecondMachine(kernel, rounds).finds)
            self.assertEqual(kernel.later(ticks).later(3), kernel.later(ticks + 3))
            self.check_same_places(kernel, later, ticks)
        self.assertEqual(kernels[0].later(0), kernels[0])

    def check_same_places(self, kernel, later, ticks):
        """The same registers, save cells and cells of arrays, so many ticks later, in the same order."""
        for k in (-2, 0, 5):
            for slot, row in enumerate(kernel.rows):
                tick = slot + kernel.interval * k
                number, new_slot = divmod(tick + ticks, kernel.interval)
                self.assertEqual(self.done(kernel, row, k), self.done(later, later.rows[new_slot], number))

    def done(self, kernel, row, k):
        """What a row does in a pass: rounds, registers, save cells and cells."""
        rows, registers, cells = [], kernel.registers, kernel.cells
        for one in row:
            if one[0] == "save":
                rows.append(("save", (one[1] + k) % registers, (one[2] + k) % cells))
            elif one[0] == "reload":
                rows.append(("reload", (one[1] + k) % cells, (one[2] + k) % registers))
            else:
                from tests.kernel_helpers import places

                at = [step * k + offset for (_, step, _), offset in zip(places(kernel.job, one[1]), one[5])]
                target = None if one[3] is None else (one[3] + k) % registers
                rows.append((one[1], k - one[2], target, [(source + k) % registers for source in one[4]], at))
        return rows

    def test_rolled_windows(self):
        random, kernels = some_kernels(835)
        for kernel in kernels:
            more, further, rounds = random.randint(-99, 99), random.choice((random.randint(-9, 9), 10**30 - 1)), random.randint(0, 5)
            rolled = kernel.rolled(registers=more, cells=further)
            one, other = SecondMachine(kernel, rounds), SecondMachine(rolled, rounds)
            self.assertEqual((one.finds, one.memory), (other.finds, other.memory))
            for k in range(kernel.registers):
                self.assertEqual(one.registers[k], other.registers[(k + more) % kernel.registers])
            for k in range(kernel.cells):
                self.assertEqual(one.cells[k], other.cells[(k + further) % kernel.cells])
            self.assertEqual(kernel.rolled(), kernel)
            self.assertEqual(rolled.rolled(registers=-more, cells=-further), kernel)
            self.assertEqual(kernel.rolled(registers=kernel.registers), kernel)


class EdgesTest(unittest.TestCase):
    def test_the_example(self):
        self.assertEqual(str(KERNEL), "kernel of 2 rows, 4 stages, 4 registers, 0 cells")
        self.assertEqual(KERNEL.asked, {("alu", 0): 1, ("alu", 1): 1, ("mem", 0): 1, ("mem", 1): 1})
        self.assertEqual((KERNEL.guards(2, 1), KERNEL.duration(2)), ((0, 1), 9))
        self.assertEqual(list(KERNEL.timeline(1)), [(0, "mul.0", 0), (1, "mul.1", 0), (3, "mul", 0), (6, "sum", 0)])

    def test_passes_outside(self):
        for number in (-1, -(10**30) + 1, 5, 6, 10**30 - 1):
            self.assertEqual(KERNEL.guards(2, number), ())
        self.assertEqual([KERNEL.guards(2, number) for number in range(5)], [(0,), (0, 1), (1,), (3,), (3,)])
        self.assertEqual(KERNEL.guards(0, 0), ())
        far = 10**30 - 1
        self.assertEqual(KERNEL.guards(far, far - 1), (0, 1, 3))
        self.assertEqual(KERNEL.guards(far - 3, far - 1), (3,))
        self.assertEqual(KERNEL.duration(far), 2 * (far - 1) + 7)

    def test_rounds_0_64_and_300(self):
        self.assertEqual(KERNEL.played(0, None, None, None), ({text: () for text in JOB.operations}, {}))
        self.assertEqual(KERNEL.played(64, *symbols()), SecondMachine(KERNEL, 64, told=symbols()).told())
        self.assertEqual(list(KERNEL.timeline(0)), [])
        self.assertEqual(len(list(KERNEL.timeline(300))), 1200)
        refuses_number(self, 301, lambda: next(KERNEL.timeline(301)))
        refuses_number(self, 65, KERNEL.played, 65, None, None, None)

    def test_stages_0_and_63(self):
        body = Body(("set", "a", ("op", "h")), ("set", "b", ("op", "k", ("at", "a", 3))))
        job = Job(body, PLAIN, {"a": "h", "b": "k"})
        for interval in (1, 32):
            rows = [()] * (interval - 1) + [(("op", "a", 0, 0, (), ()), ("op", "b", 63, 1, (0,), ()))]
            kernel = Kernel(job, interval, 24, 0, tuple(rows))
            self.assertEqual((kernel.stages, kernel.starts), (64, {"a": interval - 1, "b": 64 * interval - 1}))
            self.assertEqual(kernel.played(5, *symbols()), SecondMachine(kernel, 5, told=symbols()).told())
            self.assertEqual(kernel.guards(9, 63), (63,))
            self.assertEqual(refused(self, TooMany, kernel.later, 1).limit, 64)
            self.assertEqual(kernel.later(0), kernel)
            early = Kernel(job, interval, 24, 0, (rows[-1], *rows[:-1]))
            self.assertEqual(early.later(interval - 1).starts, kernel.starts)
            self.assertEqual(refused(self, TooMany, early.later, interval).limit, 64)
            self.assertEqual(refused(self, TooMany, early.later, 10**30 - 1).limit, 64)
            rows[-1] = (("op", "a", 0, 0, (), ()), ("op", "b", 64, 1, (0,), ()))
            refused(self, InvalidKernel, Kernel, job, interval, 24, 0, tuple(rows))

    def test_24_moves(self):
        moves = (("save", 0, 0), ("reload", 0, 0)) * 12
        kernel = Kernel(JOB, 2, 4, 1, (ROWS[0] + moves, ROWS[1]))
        self.assertEqual((kernel.moves, len(kernel)), (24, 28))
        refused(self, InvalidKernel, Kernel, JOB, 2, 4, 1, (ROWS[0] + moves, (*ROWS[1], ("save", 0, 0))))

    def test_windows_at_both_ends(self):
        for window, good in ((0, True), (23, True), (24, False), (-1, False)):
            rows = ((("op", "mul.0", 0, window, (), (0,)), ROWS[0][1], ("save", window, window), ("reload", window, window)), ROWS[1])
            if good:
                kernel = Kernel(JOB, 2, 24, 24, rows)
                self.assertEqual(kernel.played(6, *symbols()), SecondMachine(kernel, 6, told=symbols()).told())
            else:
                refused(self, InvalidKernel, Kernel, JOB, 2, 24, 24, rows)
        refused(self, InvalidKernel, Kernel, JOB, 2, 24, 0, (ROWS[0], (*ROWS[1], ("save", 0, 0))))

    def test_offsets_of_any_size(self):
        far = 10**45
        rows = ((("op", "mul.0", 0, 0, (), (far,)), ROWS[0][1]), (("op", "mul", 1, 3, (3, 0), ()), ("op", "mul.1", 0, 1, (), (-far,))))
        kernel = Kernel(JOB, 2, 4, 0, rows)
        self.assertEqual(kernel.played(1, *symbols())[0]["mul.0"], (("contents", "a", far),))
        self.assertEqual(kernel.later(4)["mul.0"][5], (far - 2,))

    def test_empty_rows(self):
        job = Job(Body(("set", "a", ("op", "h"))), PLAIN, {"a": "h"})
        kernel = Kernel(job, 3, 1, 0, ((), (("op", "a", 0, 0, (), ()),), ()))
        self.assertEqual(kernel.played(3, *symbols())[0], {"a": (("h", ()),) * 3})
        self.assertEqual((kernel.later(2).rows, kernel.later(1).rows[2]), (((("op", "a", 1, 0, (), ()),), (), ()), kernel.rows[1]))

    def test_two_that_write_in_one_tick(self):
        body = Body(("set", "a", ("op", "g", ("at", "a", 1), ("at", "a", 1))), ("set", "b", ("op", "h")), ("set", "c", ("op", "k", ("at", "b", 0))))
        job = Job(body, PLAIN, {"a": "slow", "b": "h", "c": "k"})
        a, b, c = ("op", "a", 0, 0, (0, 0), ()), ("op", "b", 0, 0, (), ()), ("op", "c", 1, 1, (0,), ())
        # The slow one starts three ticks ahead and writes in the same tick: the later start remains.
        kernel = Kernel(job, 5, 2, 0, ((a,), (), (), (b,), (c,)))
        self.assertEqual(SecondMachine(kernel, 2).finds["c", 0], (("b", 1),))
        kernel = Kernel(job, 7, 2, 0, ((a,), (), (), (b,), (("op", "c", 0, 1, (0,), ()),), (), ()))
        self.assertEqual(SecondMachine(kernel, 2).finds["c", 0], (("b", 0),))
        self.assertEqual(kernel.played(2, *symbols()), SecondMachine(kernel, 2, told=symbols()).told())
        # Of two that start and write in one tick the later one in the row remains.
        two = Body(("set", "a", ("op", "h")), ("set", "b", ("op", "h")), ("set", "c", ("op", "k", ("at", "b", 0))))
        job = Job(two, PLAIN, {"a": "h", "b": "h", "c": "k"})
        one, other, third = ("op", "a", 0, 0, (), ()), ("op", "b", 0, 0, (), ()), ("op", "c", 0, 1, (0,), ())
        for row, name in (((one, other), "b"), ((other, one), "a")):
            kernel = Kernel(job, 2, 2, 0, (row, (third,)))
            self.assertEqual(SecondMachine(kernel, 1).finds["c", 0], ((name, 0),))
            meaning = kernel.played(1, lambda operator, values: (operator, values), lambda *row: row, None)
            self.assertEqual(meaning[0]["c"], (("k", (("h", ()),)),))

    def test_two_stores_of_one_cell_in_one_tick(self):
        body = Body(("store", "s", "x", 2, 0, ("op", "h")), ("store", "v", "x", 2, 1, ("op", "h")), ("set", "y", ("load", "x", 2, 0)))
        wide = Machine.from_lines("pattern put 1 1 : = h ( )", "pattern late 3 1 : = h ( )", "pattern get 1 1 : @")
        rows = {"s": ("op", "s", 0, None, (), (0,)), "v": ("op", "v", 0, None, (), (0,))}
        for names, slots, order, remains in (
            (("put", "put"), (0, 0), "sv", "v"),
            (("put", "put"), (0, 0), "vs", "s"),
            (("late", "put"), (0, 2), "sv", "v"),
            (("put", "late"), (2, 0), "sv", "s"),
            (("late", "put"), (0, 1), "sv", "s"),
        ):
            job = Job(body, wide, {"s": names[0], "v": names[1], "y": "get"})
            slots = dict(zip("sv", slots))
            table = [tuple(rows[name] for name in order if slots[name] == slot) for slot in range(3)]
            kernel = Kernel(job, 4, 1, 0, (*table, (("op", "y", 0, 0, (), (0,)),)))
            self.assertEqual(SecondMachine(kernel, 1).memory["x", 0], (remains, 0))
            self.assertEqual(SecondMachine(kernel, 1).finds["y", 0], ((remains, 0),))
            told = kernel.played(1, lambda operator, values: 7, None, None)
            self.assertEqual(told, ({"y": (7,)}, {("x", 0): 7}))

    def test_equal_kernels(self):
        others = [Kernel(JOB, 2, 5, 0, ROWS), Kernel(JOB, 2, 4, 1, ROWS), KERNEL.later(1), KERNEL.rolled(registers=1), MOVING]
        others += [Kernel(JOB, 2, 4, 0, (ROWS[0][::-1], ROWS[1])), JOB, None, ROWS]
        other = Machine.of({"alu": 2, "mem": 1}, CHIP.patterns, save=CHIP.save, reload=CHIP.reload)
        others.append(Kernel(Job(DOT, other, JOB.cover), 2, 4, 0, ROWS))
        for value in others:
            self.assertNotEqual(KERNEL, value)

    def test_nothing_gives_access_to_the_state(self):
        for row in (KERNEL.starts, KERNEL.asked):
            row.clear()
        self.assertEqual(KERNEL.starts, {"mul": 3, "mul.0": 0, "mul.1": 1, "sum": 6})
        self.assertEqual(len(KERNEL.asked), 4)


class WrongArgumentsTest(unittest.TestCase):
    def test_jobs_and_numbers(self):
        for value in odd_values():
            is_number = type(value) is int
            if not isinstance(value, Job):
                refused(self, InvalidJob, Kernel, value, 0, 0, -1, None)
                refused(self, InvalidJob, Kernel.of, value, 0, 0, -1)
            if not is_number or not 1 <= value <= 32:
                refuses_number(self, value, Kernel, JOB, value, 0, -1, None)
                refuses_number(self, value, Kernel.of, JOB, value, 0, -1)
            if not is_number or not 1 <= value <= 24:
                refuses_number(self, value, Kernel, JOB, 2, value, -1, None)
            if not is_number or not 0 <= value <= 24:
                refuses_number(self, value, Kernel, JOB, 2, 4, value, None)

    def test_rows(self):
        first, second = ROWS
        for value in odd_values():
            refused(self, InvalidKernel, Kernel, JOB, 2, 4, 0, value)
            refused(self, InvalidKernel, Kernel, JOB, 2, 4, 0, (first, value))
            refused(self, InvalidKernel, Kernel, JOB, 2, 4, 0, (first, (*second, value)))
            refused(self, InvalidKernel, Kernel.of, JOB, 2, 4, 0, first, second, value)
        bad = [(first,), (first, second, ()), (first, first), (first, (*second, first[0])), (first, second[:1]), list(ROWS)]
        bad += [([*first], second), (first + (("save", 0, 0),), second), (first + (("opp", *first[0][1:]),), second)]
        bad += [(first + (("save", *first[0][1:]),), second), (first + (("op", 0, 0),), second)]
        for value in bad:
            refused(self, InvalidKernel, Kernel, JOB, 2, 4, 0, value)

    def test_bent_instructions(self):
        def judged(instruction, place):
            rows = [list(row) for row in STORE_ROWS]
            rows[place[0]][place[1]] = instruction
            return Kernel(STORE, 2, 2, 3, tuple(map(tuple, rows)))

        for place in ((0, 0), (0, 1), (0, 2), (1, 0), (1, 1)):
            good = STORE_ROWS[place[0]][place[1]]
            self.assertEqual(judged(good, place), MOVING)
            for k in range(len(good)):
                for value in odd_values():
                    if type(value) is type(good[k]) and value == good[k]:
                        continue
                    if type(value) is int and good[0] == "op" and k == 2 and 0 <= value < 64:
                        continue
                    if type(value) is int and type(good[k]) is int and 0 <= value < 2:
                        continue
                    if type(value) is tuple and type(good[k]) is tuple and len(value) == len(good[k]) and all(type(x) is int for x in value):
                        continue
                    if type(value) is int and good[0] in ("save", "reload") and value == 2:
                        continue
                    refused(self, InvalidKernel, judged, (*good[:k], value, *good[k + 1 :]), place)
            refused(self, InvalidKernel, judged, good[:-1], place)
            refused(self, InvalidKernel, judged, (*good, 0), place)
            refused(self, InvalidKernel, judged, list(good), place)
        bad = [("op", "put", 1, 0, (0,), (-1,)), ("op", "put", 1, None, (2,), (-1,)), ("op", "put", 1, None, (), (-1,))]
        bad += [("op", "put", 1, None, (0,), ()), ("op", "put", 1, None, (0,), (True,)), ("op", "put", True, None, (0,), (0,))]
        bad += [("op", "put", 1, None, (False,), (0,)), ("op", "put", 64, None, (0,), (0,)), ("op", "put", -1, None, (0,), (0,))]
        for value in bad:
            refused(self, InvalidKernel, judged, value, (0, 2))
        for value in (("op", "put.0", 0, None, (0,), ()), ("op", "put.0", 0, 2, (0,), ()), ("op", "put.0", 0, True, (0,), ()), ("op", "put.0", 0, 0, (0,), (0,)), ("op", "put.0", 0, 0, (0, 0), ())):
            refused(self, InvalidKernel, judged, value, (1, 1))
        for value in (("save", 2, 0), ("save", 0, 3), ("save", True, 0), ("save", 0, False), ("load", 0, 0)):
            refused(self, InvalidKernel, judged, value, (0, 1))
        for value in (("reload", 3, 0), ("reload", 0, 2), ("reload", True, 0), ("reload", 0, -1)):
            refused(self, InvalidKernel, judged, value, (1, 0))

    def test_methods(self):
        for value in odd_values():
            is_whole = type(value) is int and abs(value) < 10**30
            self.assertIs(value in KERNEL, False)
            refuses_name(self, value, KERNEL.__getitem__, value)
            if not is_whole:
                refuses_number(self, value, KERNEL.guards, 1, value)
                refuses_number(self, value, lambda: KERNEL.rolled(registers=value, cells=value))
                refuses_number(self, value, lambda: KERNEL.rolled(cells=value))
            if not is_whole or value < 0:
                refuses_number(self, value, KERNEL.guards, value, None)
                refuses_number(self, value, KERNEL.duration, value)
                refuses_number(self, value, KERNEL.later, value)
            if not is_whole or not 0 <= value <= 300:
                refuses_number(self, value, lambda: next(KERNEL.timeline(value)))
            if not is_whole or not 0 <= value <= 64:
                refuses_number(self, value, KERNEL.played, value, None, None, None)
        KERNEL.timeline(-1)
        self.assertEqual(refused(self, UnknownName, KERNEL.__getitem__, "mul.2").wanted, "mul.2")
        self.assertEqual(KERNEL.rows, ROWS)


if __name__ == "__main__":
    unittest.main()
