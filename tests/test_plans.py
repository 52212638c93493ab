"""Plans, counted slot by slot, and earliest starts by all slots."""

import unittest
from itertools import product

from loopfoundry.errors import InvalidArgument, InvalidJob
from loopfoundry.jobs.jobs import Job
from loopfoundry.machine.machines import Machine
from loopfoundry.plans.plans import asked, duration, earliest, faults, is_plan, length, spare, straight
from loopfoundry.source.bodies import Body
from tests.helpers import (
    CHIP,
    DOT,
    PAIRS,
    ascending,
    draw_job,
    draw_starts,
    fitting_starts,
    odd_values,
    refused,
    refuses_number,
    seeded,
)

JOB = Job(DOT, CHIP, {"mul": "mulld", "mul.1": "get", "sum": "add"})
STARTS = {"mul": 3, "mul.1": 0, "sum": 7}


def second_asked(job, interval, starts):
    """How often a unit is asked for in a slot: counted over the ticks of many rounds."""
    counts = {}
    for number in range(40):
        for text in job.operations:
            for unit, offset in job.uses(text):
                tick = starts[text] + offset + interval * number
                counts[unit, tick] = counts.get((unit, tick), 0) + 1
    late = max(list(starts.values())) + 3
    # From here on all operations ask in each slot.
    rows = {}
    for slot in range(interval):
        tick = next(tick for tick in range(late, late + interval) if tick % interval == slot)
        for unit in job.machine.units:
            if counts.get((unit, tick), 0):
                rows[unit, slot] = counts[unit, tick]
    return {at: rows[at] for at in sorted(rows)}


def does_fit(job, interval, starts):
    return all(starts[arc[1]] - starts[arc[0]] >= arc[2] - interval * arc[3] for arc in job.arcs)


class DrawnPlansTest(unittest.TestCase):
    def draw(self, number, many, **more):
        random = seeded(number)
        for _ in range(many):
            job, interval = draw_job(random, **more), random.randint(1, 7)
            starts = draw_starts(random, job)
            if random.random() < 0.7:
                starts = fitting_starts(random, job, interval) or starts
            yield random, job, interval, starts

    def test_units(self):
        for _, job, interval, starts in self.draw(680, 150):
            counts = second_asked(job, interval, starts)
            told = asked(job, interval, starts)
            self.assertEqual((told, list(told)), (counts, list(counts)))
            left, units = spare(job, interval, starts), job.machine.units
            self.assertEqual(list(left), [(unit, slot) for unit in sorted(units) for slot in range(interval)])
            for at, many in left.items():
                self.assertEqual(many, units[at[0]] - counts.get(at, 0))

    def test_faults(self):
        plans, wrong = 0, 0
        for random, job, interval, starts in self.draw(681, 300):
            rows = [("arc", arc) for arc in job.arcs if starts[arc[1]] - starts[arc[0]] < arc[2] - interval * arc[3]]
            counts, units = second_asked(job, interval, starts), job.machine.units
            rows += [("unit", *at) for at in sorted(counts) if counts[at] > units[at[0]]]
            told = faults(job, interval, starts)
            self.assertEqual(told, tuple(rows))
            self.assertTrue(ascending([row for row in told if row[0] == "arc"]))
            self.assertIs(is_plan(job, interval, starts), not rows)
            plans += not rows
            wrong += len(rows)
        self.assertGreater(plans, 30)
        self.assertGreater(wrong, 100)

    def test_lengths(self):
        for random, job, interval, starts in self.draw(682, 80):
            ends = [starts[text] + job.ticks(text) for text in job.operations]
            self.assertEqual(length(job, starts), max(ends) - min(starts.values()))
            for rounds in (1, 2, random.randint(3, 99), 10**30 - 1):
                told = duration(job, interval, starts, rounds)
                self.assertEqual(told, interval * (rounds - 1) + max(ends) - min(starts.values()))

    def test_earliest_starts(self):
        moved = 0
        for random, job, interval, _ in self.draw(683, 250):
            starts = fitting_starts(random, job, interval)
            if starts is None:
                continue
            starts = {text: tick + 10**5 for text, tick in starts.items()}
            told = earliest(job, interval, starts)
            moved += told != {text: tick % interval for text, tick in starts.items()}
            self.assertEqual(list(told), list(job.operations))
            self.assertTrue(does_fit(job, interval, told))
            for text in job.operations:
                self.assertEqual(told[text] % interval, starts[text] % interval)
                self.assertTrue(0 <= told[text] <= starts[text])
                if told[text] >= interval:
                    # No operation alone can be a turn earlier.
                    self.assertFalse(does_fit(job, interval, {**told, text: told[text] - interval}))
            self.assertEqual(earliest(job, interval, told), told)
        self.assertGreater(moved, 30)

    def test_earliest_starts_by_all_turns(self):
        tried = 0
        for random, job, interval, _ in self.draw(684, 200, most=2, limit=4):
            starts = fitting_starts(random, job, interval)
            if starts is None:
                continue
            told = earliest(job, interval, starts)
            turns = [range(told[text] // interval + 1) for text in job.operations]
            for counts in product(*turns):
                other = {text: starts[text] % interval + interval * n for text, n in zip(job.operations, counts)}
                if other != told:
                    tried += 1
                    self.assertFalse(does_fit(job, interval, other))
        self.assertGreater(tried, 100)

    def test_straight_plans(self):
        random, tried = seeded(685), 0
        while tried < 100:
            job = draw_job(random, limit=random.randint(1, 9))
            least = 4 * len(job)
            for interval in {1, least - 1, least, least + 1, 32}:
                if not 1 <= interval <= 32:
                    continue
                if interval < least:
                    refused(self, InvalidArgument, straight, job, interval)
                else:
                    tried += 1
                    told = straight(job, interval)
                    self.assertIs(is_plan(job, interval, told), True)
                    self.assertEqual(list(told), list(job.operations))


class EdgesTest(unittest.TestCase):
    def test_a_machine_without_units(self):
        machine = Machine.from_lines("pattern all 3 1 : = f ( @ )")
        job = Job(PAIRS, machine, {"put": "all"})
        self.assertEqual((asked(job, 3, {"put": 0}), spare(job, 3, {"put": 0})), ({}, {}))
        self.assertIs(is_plan(job, 3, {"put": 10**6}), True)
        self.assertEqual(faults(job, 2, {"put": 0}), (("arc", ("put", "put", 3, 1)),))
        self.assertEqual((length(job, {"put": 5}), duration(job, 3, {"put": 5}, 1)), (3, 3))
        self.assertEqual(straight(job, 4), {"put": 0})

    def test_one_operation_can_ask_too_often(self):
        machine = Machine.from_lines("unit u 1", "pattern h 1 1 u 0 u 2 : h ( )")
        job = Job(Body(("set", "a", ("op", "h"))), machine, {"a": "h"})
        self.assertEqual(faults(job, 1, {"a": 0}), (("unit", "u", 0),))
        self.assertEqual(faults(job, 2, {"a": 1}), (("unit", "u", 1),))
        self.assertEqual(spare(job, 2, {"a": 1}), {("u", 0): 1, ("u", 1): -1})
        self.assertIs(is_plan(job, 3, {"a": 0}), True)

    def test_the_example(self):
        self.assertIs(is_plan(JOB, 2, STARTS), True)
        self.assertEqual(asked(JOB, 2, STARTS), {("alu", 0): 1, ("alu", 1): 1, ("mem", 0): 1, ("mem", 1): 1})
        self.assertEqual(set(spare(JOB, 2, STARTS).values()), {0})
        self.assertEqual((length(JOB, STARTS), duration(JOB, 2, STARTS, 10)), (8, 26))
        # [7.3] A plan is no plan with the interval 1 greater; the same slots, earlier, are none.
        self.assertIs(is_plan(JOB, 3, {"mul": 2, "mul.1": 0, "sum": 6}), False)
        self.assertIs(is_plan(JOB, 2, {**STARTS, "sum": 5}), False)
        self.assertEqual(earliest(JOB, 2, {"mul": 9, "mul.1": 0, "sum": 99}), STARTS)


class WrongArgumentsTest(unittest.TestCase):
    def test_jobs(self):
        for value in odd_values():
            if not isinstance(value, Job):
                for call in (asked, spare, is_plan, faults, earliest):
                    refused(self, InvalidJob, call, value, 0, 0)
                refused(self, InvalidJob, length, value, 0)
                refused(self, InvalidJob, duration, value, 0, 0, 0)
                refused(self, InvalidJob, straight, value, 0)

    def test_intervals(self):
        for value in odd_values():
            if type(value) is not int or not 1 <= value <= 32:
                for call in (asked, spare, is_plan, faults, earliest):
                    refuses_number(self, value, call, JOB, value, 0)
                refuses_number(self, value, duration, JOB, value, 0, 0)
                refuses_number(self, value, straight, JOB, value)

    def test_starts(self):
        bent = [{**STARTS, "sum": worth} for worth in (-1, 10**6 + 1, False, None, "1")]
        bent += [{**STARTS, "mul.0": 0}, {"mul": 3, "mul.1": 0}, {"mul": 3, "mul.1": 0, "su": 7}]
        for value in [*odd_values(), *bent]:
            for call in (asked, spare, faults, earliest):
                refused(self, InvalidArgument, call, JOB, 2, value)
            refused(self, InvalidArgument, length, JOB, value)
            refused(self, InvalidArgument, duration, JOB, 2, value, 0)
            self.assertIs(is_plan(JOB, 2, value), False)
        refused(self, InvalidArgument, earliest, JOB, 2, {**STARTS, "sum": 5})
        refused(self, InvalidArgument, straight, JOB, 11)
        self.assertEqual(STARTS, {"mul": 3, "mul.1": 0, "sum": 7})

    def test_rounds(self):
        for value in odd_values():
            if type(value) is not int or not 1 <= value < 10**30:
                refuses_number(self, value, duration, JOB, 2, STARTS, value)


if __name__ == "__main__":
    unittest.main()
