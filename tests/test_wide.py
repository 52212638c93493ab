"""Peeled and unrolled bodies, by their runs and their meetings."""

import unittest

from loopfoundry.covers.covers import cheapest, cover_cost
from loopfoundry.errors import InvalidArgument, InvalidBody, InvalidJob
from loopfoundry.jobs.jobs import Job
from loopfoundry.machine.machines import Machine
from loopfoundry.memory.flows import flows
from loopfoundry.plans.plans import is_plan
from loopfoundry.source.bodies import Body
from loopfoundry.wide.bodies import copied_starts, peeled, peeled_job, unrolled, unrolled_job
from tests.helpers import DOT, PAIRS, draw_body, draw_job, draw_starts, fitting_starts, full_machine, odd_values
from tests.helpers import refused, refuses_number, seeded, symbols
from tests.wide_helpers import copy_text

DOUBLE = Body(("store", "put", "x", 2, 0, ("op", "f", ("load", "x", 1, 0))))
ALL = Machine.from_lines("pattern all 3 1 : = f ( @ )")
JOB = Job(DOUBLE, ALL, {"put": "all"})
LETTERS = "abcdefghijklmnopqrstuvwx"


class RunsTest(unittest.TestCase):
    def test_peeled_runs(self):
        random = seeded(870)
        for _ in range(150):
            body, ahead, rounds = draw_body(random), random.randint(0, 8), random.randint(0, 8)
            whole, (done, left) = body.run(ahead + rounds, *symbols()), body.run(ahead, *symbols())
            meaning, first, contents = symbols()

            def first_of(name, number):
                at = ahead + number
                return done[name][at] if at >= 0 else first(name, at)

            values, cells = peeled(body, ahead).run(rounds, meaning, first_of, lambda *cell: left.get(cell, contents(*cell)))
            self.assertEqual(values, {name: row[ahead:] for name, row in whole[0].items()})
            self.assertEqual({**left, **cells}, whole[1])

    def test_unrolled_runs(self):
        random, tried = seeded(871), 0
        while tried < 150:
            body, copies, rounds = draw_body(random, limit=12), random.randint(1, 4), random.randint(0, 4)
            if len(body.operations) * copies > 24:
                refused(self, InvalidBody, unrolled, body, copies)
                continue
            tried += 1
            meaning, first, contents = symbols()
            homes = {LETTERS[n] + LETTERS[k]: (name, k) for n, name in enumerate(body.names) for k in range(copies)}

            def first_of(name, number):
                own, k = homes[name]
                return first(own, k + copies * number)

            values, cells = unrolled(body, copies).run(rounds, meaning, first_of, contents)
            plain, plain_cells = body.run(copies * rounds, meaning, first, contents)
            self.assertEqual(cells, plain_cells)
            for name, row in values.items():
                own, k = homes[name]
                self.assertEqual(row, plain[own][k::copies])

    def test_one_behind_the_other(self):
        random = seeded(872)
        for _ in range(100):
            body, one, other, copies = draw_body(random, limit=8), random.randint(0, 9), random.randint(0, 9), random.randint(1, 3)
            self.assertEqual(peeled(peeled(body, one), other), peeled(body, one + other))
            self.assertEqual(unrolled(peeled(body, copies * one), copies), peeled(unrolled(body, copies), one))
            if len(body.operations) <= 4:
                u, v = random.randint(1, 3), random.randint(1, 2)
                twice, names = unrolled(unrolled(body, u), v), {}
                for n in range(len(body)):
                    for k in range(u):
                        for m in range(v):
                            names[LETTERS[len(body) * k + n] + LETTERS[m]] = LETTERS[n] + LETTERS[u * m + k]
                self.assertEqual(twice.renamed(names), unrolled(body, u * v))

    def test_meetings_round_by_round(self):
        random = seeded(873)
        for _ in range(60):
            body, copies, ahead = draw_body(random, limit=8), random.randint(1, 3), random.randint(0, 3)
            wide, rounds = unrolled(peeled(body, ahead), copies), 20
            plain = {}
            for name, array, *store in body.stores:
                for load, other_array, *other in body.loads:
                    if array != other_array:
                        continue
                    for i in range(copies * rounds):
                        for j in range(copies * rounds):
                            if store[0] * (i + ahead) + store[1] == other[0] * (j + ahead) + other[1]:
                                before = body.names.index(name) < body.names.index(load.partition(".")[0])
                                flow = j > i or (i == j and before)
                                texts = [self.text(body, name, i % copies), self.text(body, load, j % copies)]
                                apart = abs(i // copies - j // copies)
                                row = ("flow" if flow else "anti", *texts)
                                plain[row] = min(apart, plain.get(row, apart))
            self.assertEqual(flows(wide, rounds=rounds), tuple(sorted((*row, apart) for row, apart in plain.items())))

    def text(self, body, operation, k):
        name, point, rest = operation.partition(".")
        return LETTERS[body.names.index(name)] + LETTERS[k] + point + rest


class JobsTest(unittest.TestCase):
    def test_jobs(self):
        random, tried = seeded(874), 0
        while tried < 80:
            job, copies, ahead = draw_job(random, limit=10), random.randint(1, 4), random.randint(0, 9)
            peel = peeled_job(job, ahead)
            self.assertEqual(peel, Job(peeled(job.body, ahead), job.machine, job.cover))
            if len(job.body.operations) * copies > 24:
                continue
            tried += 1
            wide, body = unrolled_job(job, copies), unrolled(job.body, copies)
            self.assertEqual((wide.body, wide.machine, wide.cost), (body, job.machine, copies * job.cost))
            cover = {}
            for text, name in job.cover.items():
                for k in range(copies):
                    part, point, rest = text.partition(".")
                    cover[LETTERS[job.body.names.index(part)] + LETTERS[k] + point + rest] = name
            self.assertEqual(wide.cover, cover)

    def test_plans_of_unrolled_jobs(self):
        random, plans = seeded(875), 0
        for _ in range(600):
            job, interval, copies = draw_job(random, limit=8, chance=0.2), random.randint(1, 10), random.randint(1, 3)
            starts = fitting_starts(random, job, interval)
            if starts is None or len(job.body.operations) * copies > 24 or copies * interval > 32:
                continue
            wide = copied_starts(job, interval, starts, copies)
            self.assertEqual(list(wide), sorted(wide))
            for text in job.operations:
                for k in range(copies):
                    self.assertEqual(wide[JobsTest.wide_text(job, text, k)], starts[text] + interval * k)
            plan = is_plan(job, interval, starts)
            plans += plan
            self.assertIs(is_plan(unrolled_job(job, copies), copies * interval, wide), plan)
        self.assertGreater(plans, 40)

    @staticmethod
    def wide_text(job, text, k):
        return copy_text(job, text, 2, k)

    def test_least_costs(self):
        random = seeded(876)
        for _ in range(60):
            body, machine, copies = draw_body(random, limit=8), full_machine(random), random.randint(1, 3)
            wide = unrolled(body, copies)
            self.assertEqual(cover_cost(wide, machine, cheapest(wide, machine)), copies * cover_cost(body, machine, cheapest(body, machine)))


class EdgesTest(unittest.TestCase):
    def test_the_examples(self):
        self.assertEqual(unrolled(DOUBLE, 2).stores, (("aa", "x", 4, 0), ("ab", "x", 4, 2)))
        self.assertEqual(unrolled(DOT, 2)["bb"], ("set", "bb", ("op", "add", ("at", "ba", 0), ("at", "ab", 0))))
        self.assertEqual(peeled(DOUBLE, 3).stores, (("put", "x", 2, 6),))

    def test_one_copy_has_other_names(self):
        one = unrolled(DOT, 1)
        self.assertEqual((one.names, one), (("aa", "ba"), DOT.renamed({"mul": "aa", "sum": "ba"})))
        self.assertEqual(unrolled_job(JOB, 1).cover, {"aa": "all"})
        self.assertEqual(copied_starts(JOB, 1, {"put": 4}, 1), {"aa": 4})

    def test_24_nodes_and_copies(self):
        single = Body(("set", "y", ("op", "h")))
        wide = unrolled(single, 24)
        self.assertEqual((len(wide), wide.names[0], wide.names[-1]), (24, "aa", "ax"))
        self.assertEqual(len(unrolled(DOT, 6).operations), 24)
        refused(self, InvalidBody, unrolled, DOT, 7)
        refused(self, InvalidBody, unrolled, PAIRS, 24)
        many = Body(*[("set", f"{letter}z", ("op", "h")) for letter in LETTERS])
        self.assertEqual(unrolled(many, 1).names[-1], "xa")
        refused(self, InvalidBody, unrolled, many, 2)
        self.assertEqual(len(copied_starts(Job(many, Machine.from_lines("pattern h 1 1 : h ( )"), dict.fromkeys(many.names, "h")), 32, dict.fromkeys(many.names, 0), 24)), 576)

    def test_thirty_digits(self):
        far = 10**29
        body = Body(("store", "put", "x", far, 0, ("load", "x", 0, far)))
        self.assertEqual(peeled(body, 9).stores, (("put", "x", far, 9 * far),))
        refused(self, InvalidBody, peeled, body, 10)
        self.assertEqual(unrolled(body, 9).stores[-1], ("ai", "x", 9 * far, 8 * far))
        refused(self, InvalidBody, unrolled, body, 10)
        refused(self, InvalidBody, peeled_job, JOB, 10**30 - 1)
        still = Body(("set", "y", ("load", "x", 0, 7)))
        self.assertEqual(peeled(still, 10**30 - 1), still)

    def test_distances(self):
        body = Body(("set", "a", ("op", "f", ("at", "a", 1), ("at", "a", 3))))
        leaves = {k: unrolled(body, 2).statements[k][2][2:] for k in (0, 1)}
        self.assertEqual(leaves[0], (("at", "ab", 1), ("at", "ab", 2)))
        self.assertEqual(leaves[1], (("at", "aa", 0), ("at", "aa", 1)))
        self.assertEqual(unrolled(body, 4).statements[3][2][2:], (("at", "ac", 0), ("at", "aa", 0)))

    def test_greatest_starts(self):
        self.assertEqual(copied_starts(JOB, 32, {"put": 10**6 - 32 * 23}, 24)["ax"], 10**6)
        refused(self, InvalidArgument, copied_starts, JOB, 32, {"put": 10**6 - 32 * 23 + 1}, 24)
        self.assertEqual(copied_starts(JOB, 32, {"put": 10**6}, 1), {"aa": 10**6})


class WrongArgumentsTest(unittest.TestCase):
    def test_bodies_and_jobs(self):
        starts = {"put": 0}
        for value in odd_values():
            is_number = type(value) is int and abs(value) < 10**30
            if not isinstance(value, Body):
                refused(self, InvalidBody, peeled, value, -1)
                refused(self, InvalidBody, unrolled, value, -1)
            if not isinstance(value, Job):
                refused(self, InvalidJob, peeled_job, value, -1)
                refused(self, InvalidJob, unrolled_job, value, -1)
                refused(self, InvalidJob, copied_starts, value, 0, None, 0)
            if not is_number or value < 0:
                refuses_number(self, value, peeled, DOT, value)
                refuses_number(self, value, peeled_job, JOB, value)
            if not is_number or not 1 <= value <= 24:
                refuses_number(self, value, unrolled, DOT, value)
                refuses_number(self, value, unrolled_job, JOB, value)
                refuses_number(self, value, copied_starts, JOB, 32, {"put": 10**6}, value)
            if not is_number or not 1 <= value <= 32:
                refuses_number(self, value, copied_starts, JOB, value, None, 0)
            if value != starts:
                refused(self, InvalidArgument, copied_starts, JOB, 2, value, 0)
        self.assertEqual((starts, DOT), ({"put": 0}, Body(*DOT.statements)))
        self.assertEqual(draw_starts(seeded(1), JOB).keys(), starts.keys())


if __name__ == "__main__":
    unittest.main()
