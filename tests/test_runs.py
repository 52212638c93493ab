"""Timed runs, walked tick by tick, and the least run in which something is wrong."""

import unittest

from loopfoundry.errors import InvalidArgument, InvalidJob
from loopfoundry.jobs.jobs import Job
from loopfoundry.jobs.runs import due, found, is_right, is_wrong_thing, least_wrong, timed_run, wrong_things
from loopfoundry.machine.machines import Machine
from loopfoundry.source.bodies import Body
from tests.helpers import (
    CHIP,
    DOT,
    PAIRS,
    ascending,
    draw_job,
    draw_starts,
    fitting_starts,
    odd_values,
    operand_arcs,
    refused,
    refuses_number,
    seeded,
    symbols,
)

ONES = Machine.from_lines("pattern get 2 1 : @", "pattern neg 1 1 : neg ( _ )", "pattern put 1 1 : = _")
COPY = Body(("store", "put", "x", 1, 0, ("load", "x", 1, 0)), ("set", "y", ("op", "neg", ("load", "x", 1, 0))))
COPY_JOB = Job(COPY, ONES, {"put": "put", "put.0": "get", "y": "neg", "y.0": "get"})
EARLY = {"put": 2, "put.0": 0, "y": 2, "y.0": 0}
JOB = Job(DOT, CHIP, {"mul": "mulld", "mul.1": "get", "sum": "add"})
STARTS = {"mul": 3, "mul.1": 0, "sum": 7}
CHAIN = Job(PAIRS, CHIP, {"put": "put", "put.0": "f", "put.0.0": "get"})


def cell_of_load(job, load, number):
    _, array, step, offset = next(row for row in job.body.loads if row[0] == load)
    return array, step * number + offset


def plain_findings(job, rounds):
    """What each reading finds in the run of the body: a dict from (operation, round)."""
    memory, told = {}, {}
    for number in range(rounds):
        for row in job.body.statements:
            texts = [text for text in job.operations if text.split(".")[0] == row[1]]
            for text in texts:
                rows = [(source, number - distance) for source, distance in job.operands(text)]
                rows += [memory.get(cell_of_load(job, load, number)) for load in job.loaded(text)]
                told[text, number] = tuple(rows)
            if row[0] == "store":
                memory[row[2], row[3] * number + row[4]] = (row[1], number)
    return told


def walk(job, interval, starts, rounds, told):
    """Walk the ticks of a timed run: what is found, and the values and cells by `told` functions."""
    meaning, first, contents = told
    begins, ends = {}, {}
    for number in range(-3, rounds):
        for text in job.operations:
            tick = starts[text] + interval * number
            if number >= 0:
                begins.setdefault(tick, []).append((text, number))
            if number >= 0 or text in job.body.scalars:
                ends.setdefault(tick + job.ticks(text), []).append((text, number))
    written, memory, finds, values = {}, {}, {}, {}
    for tick in sorted({*begins, *ends}):
        for text, number in ends.get(tick, ()):
            if text in job.valued:
                written[text, number] = first(text, number) if number < 0 else values[text, number]
            else:
                row = job.body[text]
                memory[row[2], row[3] * number + row[4]] = ((text, number), values[text, number])
        for text, number in begins.get(tick, ()):
            rows, known = [], []
            for source, distance in job.operands(text):
                at = (source, number - distance)
                rows.append(at if at in written else None)
                known.append(written.get(at))
            for load in job.loaded(text):
                cell = cell_of_load(job, load, number)
                rows.append(memory[cell][0] if cell in memory else None)
                known.append(memory[cell][1] if cell in memory else contents(*cell))
            finds[text, number] = tuple(rows)
            shape = job.machine.pattern(job[text])[1]
            operands, loads = known[: len(job.operands(text))], known[len(job.operands(text)) :]
            values[text, number] = value_by(shape, job.body.tree(text), iter(operands), iter(loads), meaning)
    scalars = {text: tuple(values[text, number] for number in range(rounds)) for text in job.valued}
    return finds, (scalars, {cell: worth for cell, (_, worth) in sorted(memory.items())})


def value_by(shape, node, operands, loads, meaning):
    if shape[0] == "hole":
        return next(operands)
    if shape[0] == "load":
        return next(loads)
    if shape[0] == "store":
        return value_by(shape[1], node[5], operands, loads, meaning)
    rows = [value_by(part, below, operands, loads, meaning) for part, below in zip(shape[2:], node[2:])]
    return meaning(node[1], tuple(rows))


def second_wrong(job, interval, starts, rounds):
    finds, _ = walk(job, interval, starts, rounds, symbols())
    plain, rows = plain_findings(job, rounds), []
    for (text, number), told in finds.items():
        for index, one in enumerate(told):
            if one != plain[text, number][index]:
                rows.append((starts[text] + interval * number, text, number, index, one))
    return sorted(rows, key=lambda row: row[:4])


def does_fit(job, interval, starts):
    return all(starts[arc[1]] - starts[arc[0]] >= arc[2] - interval * arc[3] for arc in job.arcs)


class WalkedRunsTest(unittest.TestCase):
    def draw(self, number, many, **more):
        random = seeded(number)
        for _ in range(many):
            job, interval = draw_job(random, **more), random.randint(1, 6)
            starts = draw_starts(random, job)
            if random.random() < 0.6:
                starts = fitting_starts(random, job, interval) or starts
                if random.random() < 0.7:
                    starts[random.choice(job.operations)] += random.randint(-1, 3)
                    starts = {text: max(0, tick) for text, tick in starts.items()}
            yield random, job, interval, starts

    def test_findings(self):
        for random, job, interval, starts in self.draw(620, 120):
            rounds = random.randint(0, 9)
            plain, (finds, _) = plain_findings(job, rounds), walk(job, interval, starts, rounds, symbols())
            for (text, number), told in finds.items():
                self.assertEqual(found(job, interval, starts, rounds, text, number), told)
                self.assertEqual(due(job, text, number), plain[text, number])

    def test_wrong_things(self):
        many = 0
        for random, job, interval, starts in self.draw(621, 150):
            rounds = random.randint(0, 9)
            rows = second_wrong(job, interval, starts, rounds)
            self.assertEqual(list(wrong_things(job, interval, starts, rounds)), rows)
            self.assertTrue(ascending([row[:4] for row in rows]))
            for row in rows:
                self.assertIs(is_wrong_thing(job, interval, starts, rounds, row), True)
                self.assertIs(is_wrong_thing(job, interval, starts, rounds + random.randint(0, 9), row), True)
                self.assertIs(is_wrong_thing(job, interval, starts, row[2], row), False)
            many += len(rows)
        self.assertGreater(many, 500)

    def test_the_least_wrong_run(self):
        late, right = 0, 0
        for random, job, interval, starts in self.draw(622, 1000, spread=9, most=2):
            # Starts that fit what is read by operands go wrong by stores and loads, perhaps late.
            starts = fitting_starts(random, job, interval, operand_arcs(job)) or starts
            told = least_wrong(job, interval, starts)
            self.assertEqual(told is None, does_fit(job, interval, starts))
            self.assertIs(is_right(job, interval, starts), told is None)
            if told is None:
                right += 1
                self.assertEqual(second_wrong(job, interval, starts, 14), [])
                continue
            rounds, thing = told
            late += rounds > 2
            if rounds <= 40:
                self.assertEqual(second_wrong(job, interval, starts, rounds - 1), [])
                self.assertEqual(second_wrong(job, interval, starts, rounds)[0], thing)
            self.assertIs(is_wrong_thing(job, interval, starts, rounds, thing), True)
            self.assertIs(is_wrong_thing(job, interval, starts, rounds - 1, thing), False)
        self.assertGreater(late, 15)
        self.assertGreater(right, 100)

    def test_a_tick_too_early(self):
        tried = 0
        for random, job, interval, _ in self.draw(623, 200):
            starts = fitting_starts(random, job, interval)
            if starts is None or not job.arcs:
                continue
            source, target, delay, distance = random.choice(job.arcs)
            tick = starts[source] + delay - interval * distance
            if source == target or tick < 1:
                continue
            tried += 1
            on_time = {**starts, target: tick}
            self.assertIs(is_right(job, interval, on_time), does_fit(job, interval, on_time))
            self.assertIs(is_right(job, interval, {**starts, target: tick - 1}), False)
            self.assertIsNotNone(least_wrong(job, interval, {**starts, target: tick - 1}))
        self.assertGreater(tried, 80)

    def test_values_and_cells(self):
        fits = 0
        for random, job, interval, starts in self.draw(624, 150):
            rounds = random.randint(0, 8)
            told = timed_run(job, interval, starts, rounds, *symbols())
            self.assertEqual(told, walk(job, interval, starts, rounds, symbols())[1])
            self.assertEqual((list(told[0]), list(told[1])), (list(job.valued), sorted(told[1])))
            if does_fit(job, interval, starts):
                fits += 1
                self.assertEqual(told, job.run(rounds, *symbols()))
        self.assertGreater(fits, 30)

    def test_what_fits_fits_for_every_greater_interval(self):
        for random, job, interval, starts in self.draw(625, 100):
            if is_right(job, interval, starts):
                for greater in range(interval, 33):
                    self.assertIs(is_right(job, greater, starts), True)


class FarTest(unittest.TestCase):
    def far(self, step, offset, load_step=1):
        body = Body(("store", "put", "x", step, offset, ("op", "neg", ("load", "x", load_step, 0))))
        return Job(body, ONES, {"put": "put", "put.0": "neg", "put.0.0": "get"})

    def test_a_flow_far_away(self):
        # The store of round i and the load of round 2 * i + far meet: the distances grow from far on.
        far = 10**17
        job = self.far(2, far)
        starts = {"put": 10**6, "put.0": 2, "put.0.0": 0}
        self.assertIsNone(least_wrong(job, 1, starts))
        self.assertEqual(job.arcs[0], ("put", "put.0.0", 1, far))

    def test_distances_that_fall(self):
        far = 10**17
        job = self.far(1, far, 2)
        # The cell i + far is loaded in the round (i + far) / 2: the last flow is in round far - 1.
        for put, rounds in ((3, far - 2), (4, far - 3), (10, far - 9), (10**6, far - 10**6 + 1)):
            starts = {"put": put, "put.0": 2, "put.0.0": 0}
            told = least_wrong(job, 1, starts)
            self.assertEqual(told[0], rounds)
            number = rounds - 1
            self.assertEqual(told[1], (number, "put.0.0", number, 0, None))
            self.assertEqual(due(job, "put.0.0", number), (("put", 2 * number - far),))
            self.assertEqual(found(job, 1, starts, rounds, "put.0.0", number), (None,))
            self.assertIs(is_wrong_thing(job, 1, starts, 10**29, told[1]), True)
            self.assertIs(is_wrong_thing(job, 1, starts, number, told[1]), False)

    def test_by_the_equation_of_the_cells(self):
        random = seeded(630)
        for _ in range(300):
            step, load_step = random.randint(1, 4), random.randint(0, 4)
            far = random.randint(10**18, 10**19)
            offset = random.choice((far, -far, random.randint(-40, 40)))
            job = self.far(step, offset, load_step)
            put, get, interval = random.randint(0, 20), random.randint(0, 20), random.randint(1, 5)
            starts = {"put": put, "put.0": get + 2, "put.0.0": get}
            told = least_wrong(job, interval, starts)
            self.assertEqual(told is None, does_fit(job, interval, starts))
            if put < get + 3:
                self.assertEqual(told[0], 1)
            elif told is not None:
                rounds, (tick, text, number, index, finds) = told
                self.assertEqual((text, index, tick), ("put.0.0", 0, get + interval * number))
                if finds is None:
                    store = (load_step * number - offset) // step
                    self.assertEqual(rounds, number + 1)
                else:
                    store = finds[1]
                    self.assertEqual(rounds, store + 1)
                self.assertEqual(step * store + offset, load_step * number)
                self.assertEqual(is_wrong_thing(job, interval, starts, rounds, told[1]), True)
                # No pair of rounds shortly before is wrong.
                for back in range(1, 30):
                    early = number - back
                    if early >= 0 and (load_step * early - offset) % step == 0:
                        other = (load_step * early - offset) // step
                        if 0 <= other and max(early, other) + 1 < rounds:
                            done = put + 1 + interval * other <= get + interval * early
                            self.assertEqual(done, other < early)

    def test_an_anti_far_away(self):
        # The load of round 0 * j meets the store of the round far: all earlier rounds load it in time.
        far = 10**20
        job = self.far(1, -far, 0)
        self.assertIsNone(least_wrong(job, 4, {"put": 3, "put.0": 2, "put.0.0": 0}))
        starts = {"put": 3, "put.0": 2, "put.0.0": 14}
        told = least_wrong(job, 4, starts)
        self.assertEqual(told[0], 1)
        starts = {"put": 17, "put.0": 16, "put.0.0": 14}
        self.assertIsNone(least_wrong(job, 4, starts))

    def test_a_load_of_one_cell_is_wrong_first_in_its_first_round(self):
        body = Body(("store", "s", "x", 1, -7, ("op", "h")), ("set", "a", ("load", "x", 0, 0)))
        machine = Machine.from_lines("pattern h 1 1 : h ( )", "pattern put 1 1 : = _", "pattern get 1 1 : @")
        job = Job(body, machine, {"a": "get", "s": "put", "s.0": "h"})
        starts = {"a": 10, "s": 1, "s.0": 0}
        self.assertEqual(least_wrong(job, 3, starts), (8, (10 + 3 * 5, "a", 5, 0, ("s", 7))))
        self.assertEqual(second_wrong(job, 3, starts, 8)[0], (25, "a", 5, 0, ("s", 7)))
        self.assertEqual(second_wrong(job, 3, starts, 7), [])
        starts["a"] = 50
        self.assertEqual(least_wrong(job, 3, starts), (8, (50, "a", 0, 0, ("s", 7))))


class NearTest(unittest.TestCase):
    def test_all_small_starts(self):
        store = ("store", "s", "x", 1, 0, ("op", "h"))
        machine = Machine.from_lines("pattern h 1 1 : h ( )", "pattern put 2 1 : = _", "pattern get 1 1 : @")
        kinds = set()
        for step in (-1, 0, 1, 2):
            for offset in range(-2, 5):
                load = ("set", "a", ("load", "x", step, offset))
                for rows in ((store, load), (load, store)):
                    job = Job(Body(*rows), machine, {"a": "get", "s": "put", "s.0": "h"})
                    for interval in (1, 2, 3):
                        for get in range(0, 9):
                            starts = {"a": get, "s": 2, "s.0": 1}
                            told = least_wrong(job, interval, starts)
                            self.assertEqual(told is None, does_fit(job, interval, starts))
                            things = second_wrong(job, interval, starts, 12)
                            self.assertEqual(told is None, not things)
                            if told is not None:
                                rounds, thing = told
                                kinds.add((thing[4] is None, rounds > 1))
                                self.assertEqual(second_wrong(job, interval, starts, rounds)[0], thing)
                                self.assertEqual(second_wrong(job, interval, starts, rounds - 1), [])
        self.assertEqual(len(kinds), 4)


class EdgesTest(unittest.TestCase):
    def test_readings_below_round_0(self):
        self.assertEqual(due(JOB, "sum", 0), (("sum", -1), ("mul", 0)))
        self.assertEqual(found(JOB, 2, STARTS, 1, "sum", 0), (("sum", -1), ("mul", 0)))
        body = Body(("set", "a", ("op", "f", ("at", "a", 3))))
        machine = Machine.from_lines("pattern f 4 1 : f ( _ )")
        job = Job(body, machine, {"a": "f"})
        self.assertEqual(due(job, "a", 1), (("a", -2),))
        self.assertEqual(found(job, 2, {"a": 0}, 3, "a", 1), (("a", -2),))
        self.assertEqual(found(job, 1, {"a": 0}, 1, "a", 0), (None,))
        self.assertEqual(least_wrong(job, 1, {"a": 0}), (1, (0, "a", 0, 0, None)))
        self.assertIs(is_right(job, 2, {"a": 10**6}), True)

    def test_first_values_and_values_that_are_not_there(self):
        told = timed_run(JOB, 2, STARTS, 1, *symbols())
        product = ("mul", (("contents", "a", 0), ("contents", "b", 0)))
        self.assertEqual(told[0]["sum"], (("add", (("first", "sum", -1), product)),))
        late = timed_run(JOB, 2, {**STARTS, "sum": 5}, 2, *symbols())
        self.assertEqual(late[0]["sum"][0], ("add", (("first", "sum", -1), None)))

    def test_an_interval_of_1_and_of_32_and_starts_to_the_end(self):
        starts = {"mul": 2, "mul.1": 0, "sum": 10**6}
        self.assertIsNone(least_wrong(JOB, 32, starts))
        self.assertIsNone(least_wrong(JOB, 1, starts))
        self.assertEqual(least_wrong(JOB, 1, {**starts, "mul": 10**6})[0], 1)
        self.assertEqual(timed_run(JOB, 32, starts, 64, *symbols()), JOB.run(64, *symbols()))

    def test_rounds(self):
        self.assertEqual(list(wrong_things(COPY_JOB, 2, EARLY, 0)), [])
        self.assertEqual(len(list(wrong_things(COPY_JOB, 2, EARLY, 64))), 64)
        self.assertEqual(timed_run(COPY_JOB, 2, EARLY, 0, *symbols()), ({"put.0": (), "y": (), "y.0": ()}, {}))
        refuses_number(self, 0, found, COPY_JOB, 2, EARLY, 0, "y", 0)
        refuses_number(self, 5, found, COPY_JOB, 2, EARLY, 0, "y", 5)
        refused(self, InvalidArgument, found, COPY_JOB, 2, EARLY, 0, "z", 5)

    def test_right_values_with_wrong_starts(self):
        # The store copies what the load finds in the place of what it stores.
        self.assertIsNotNone(least_wrong(COPY_JOB, 2, EARLY))
        self.assertEqual(timed_run(COPY_JOB, 2, EARLY, 9, *symbols()), COPY_JOB.run(9, *symbols()))

    def test_bent_things(self):
        rounds, thing = least_wrong(COPY_JOB, 2, EARLY)
        self.assertEqual((rounds, thing), (1, (0, "y.0", 0, 0, None)))
        bent = [thing[:4], (*thing, None), list(thing), (1, *thing[1:]), (-1, *thing[1:]), (False, *thing[1:])]
        bent += [(0, text, 0, 0, None) for text in ("y", "put", "put.0", "x", None, ["y.0"])]
        bent += [(0, "y.0", number, 0, None) for number in (1, -1, False, None, "0")]
        bent += [(-2, "y.0", -1, 0, None), (18, "y.0", 9, 0, None)]
        bent += [(0, "y.0", 0, index, None) for index in (1, -1, False, None)]
        bent += [(0, "y.0", 0, 0, told) for told in (("put", 0), ("put", 1), False, (), ("put",), ["put", 0])]
        for value in [*odd_values(), *bent]:
            self.assertIs(is_wrong_thing(COPY_JOB, 2, EARLY, 9, value), False, value)
        self.assertIs(is_wrong_thing(COPY_JOB, 2, EARLY, 9, (2, "y.0", 1, 0, None)), True)
        self.assertIs(is_wrong_thing(COPY_JOB, 2, EARLY, 1, (2, "y.0", 1, 0, None)), False)

    def test_true_is_no_round(self):
        body = Body(("store", "s", "x", 1, 0, ("op", "neg", ("load", "x", 1, 1))))
        job = Job(body, ONES, {"s": "put", "s.0": "neg", "s.0.0": "get"})
        starts = {"s": 3, "s.0": 2, "s.0.0": 9}
        self.assertIs(is_wrong_thing(job, 3, starts, 5, (9, "s.0.0", 0, 0, ("s", 1))), True)
        self.assertIs(is_wrong_thing(job, 3, starts, 5, (9, "s.0.0", 0, 0, ("s", True))), False)

    def test_long_numbers(self):
        wide = 10**30 - 1
        self.assertEqual(due(JOB, "sum", wide), (("sum", wide - 1), ("mul", wide)))
        self.assertEqual(found(JOB, 2, STARTS, wide, "sum", wide - 1), (("sum", wide - 2), ("mul", wide - 1)))
        thing = (2 * (wide - 1), "y.0", wide - 1, 0, None)
        self.assertIs(is_wrong_thing(COPY_JOB, 2, EARLY, wide, thing), True)


class WrongArgumentsTest(unittest.TestCase):
    def test_jobs(self):
        for value in odd_values():
            if isinstance(value, Job):
                continue
            refused(self, InvalidJob, due, value, 0, -1)
            refused(self, InvalidJob, found, value, 0, 0, -1, 0, -1)
            refused(self, InvalidJob, lambda: next(wrong_things(value, 0, 0, -1)))
            refused(self, InvalidJob, is_wrong_thing, value, 0, 0, -1, None)
            refused(self, InvalidJob, least_wrong, value, 0, 0)
            refused(self, InvalidJob, is_right, value, 0, 0)
            refused(self, InvalidJob, timed_run, value, 0, 0, -1, None, None, None)

    def test_intervals(self):
        for value in odd_values():
            if type(value) is int and 1 <= value <= 32:
                continue
            refuses_number(self, value, found, JOB, value, 0, -1, 0, -1)
            refuses_number(self, value, lambda: next(wrong_things(JOB, value, 0, -1)))
            refuses_number(self, value, is_wrong_thing, JOB, value, 0, -1, None)
            refuses_number(self, value, least_wrong, JOB, value, 0)
            refuses_number(self, value, is_right, JOB, value, 0)
            refuses_number(self, value, timed_run, JOB, value, 0, -1, None, None, None)

    def test_starts(self):
        bent = [{**STARTS, "sum": worth} for worth in (-1, 10**6 + 1, True, None, "1", 10**30)]
        bent += [{**STARTS, "mul.0": 0}, {"mul": 3, "mul.1": 0}, {"mul": 3, "mul.1": 0, "su": 7}]
        for value in [*odd_values(), *bent]:
            refused(self, InvalidArgument, found, JOB, 2, value, -1, 0, -1)
            refused(self, InvalidArgument, lambda: next(wrong_things(JOB, 2, value, -1)))
            refused(self, InvalidArgument, is_wrong_thing, JOB, 2, value, -1, None)
            refused(self, InvalidArgument, least_wrong, JOB, 2, value)
            refused(self, InvalidArgument, timed_run, JOB, 2, value, -1, None, None, None)
            self.assertIs(is_right(JOB, 2, value), False)

    def test_rounds_and_numbers(self):
        for value in odd_values():
            if type(value) is int and 0 <= value < 10**30:
                continue
            refuses_number(self, value, found, JOB, 2, STARTS, value, 0, -1)
            refuses_number(self, value, lambda: next(wrong_things(JOB, 2, STARTS, value)))
            refuses_number(self, value, is_wrong_thing, JOB, 2, STARTS, value, None)
            refuses_number(self, value, timed_run, JOB, 2, STARTS, value, None, None, None)
            refuses_number(self, value, due, JOB, "sum", value)
            refuses_number(self, value, found, JOB, 2, STARTS, 3, "sum", value)
        refuses_number(self, 65, lambda: next(wrong_things(JOB, 2, STARTS, 65)))
        refuses_number(self, 65, timed_run, JOB, 2, STARTS, 65, None, None, None)
        refuses_number(self, 3, found, JOB, 2, STARTS, 3, "sum", 3)

    def test_operations(self):
        for value in [*odd_values(), "mul.0"]:
            refused(self, InvalidArgument, due, JOB, value, -1)
            refused(self, InvalidArgument, found, JOB, 2, STARTS, 3, value, -1)


if __name__ == "__main__":
    unittest.main()
