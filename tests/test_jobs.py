"""Jobs: what their operations read, their arcs, and their runs, held against the trees of the body."""

import unittest

from loopfoundry.covers.covers import cover_cost
from loopfoundry.covers.orders import count_covers, cover_at
from loopfoundry.errors import InvalidArgument, InvalidBody, InvalidCover, InvalidMachine
from loopfoundry.jobs.jobs import Job
from loopfoundry.machine.machines import Machine
from loopfoundry.source.bodies import Body
from loopfoundry.source.trees import nodes
from tests.helpers import (
    CHIP,
    DOT,
    PAIRS,
    ascending,
    draw_body,
    draw_job,
    full_machine,
    odd_values,
    refused,
    refuses_name,
    refuses_number,
    second_arcs,
    seeded,
    symbols,
    unit_machine,
)

ONES = Machine.from_lines("pattern get 2 1 : @", "pattern neg 1 1 : neg ( _ )", "pattern put 1 1 : = _")
COVER = {"mul": "mulld", "mul.1": "get", "sum": "add"}


def parts(shape, tree, text, kinds):
    """The holes and the loads of a shape that fits, from left to right: (kind, text, node)."""
    if shape[0] in kinds:
        return [(shape[0], text, tree)]
    if shape[0] == "store":
        return parts(shape[1], tree[5], f"{text}.0", kinds)
    rows = []
    for place, part in enumerate(shape[2:]):
        rows += parts(part, tree[2 + place], f"{text}.{place}", kinds)
    return rows


class PartsTest(unittest.TestCase):
    def test_what_operations_read(self):
        random = seeded(600)
        for _ in range(150):
            job = draw_job(random)
            for text in job.operations:
                pattern = job.machine.pattern(job.cover[text])
                self.assertEqual(job[text], pattern[0])
                self.assertEqual((job.ticks(text), job.uses(text)), (pattern[2], pattern[4]))
                rows = parts(pattern[1], job.body.tree(text), text, ("hole", "load"))
                holes = [row for row in rows if row[0] == "hole"]
                operands = [(node[1], node[2]) if node[0] == "at" else (at, 0) for _, at, node in holes]
                self.assertEqual(job.operands(text), tuple(operands))
                self.assertEqual(job.loaded(text), tuple(at for kind, at, _ in rows if kind == "load"))
                for _, at, node in holes:
                    if node[0] != "at":
                        self.assertEqual(job.above(at), text)
            for name in job.body.names:
                self.assertIsNone(job.above(name))

    def test_properties(self):
        random = seeded(601)
        for _ in range(60):
            job = draw_job(random)
            self.assertEqual(job.operations, tuple(sorted(job.cover)))
            self.assertEqual(list(job.cover), list(job.operations))
            self.assertEqual(job.cost, cover_cost(job.body, job.machine, job.cover))
            stores = [row[1] for row in job.body.statements if row[0] == "store"]
            self.assertEqual(job.valued, tuple(text for text in job.operations if text not in stores))
            self.assertEqual(list(job), list(job.operations))
            self.assertEqual(len(job), len(job.operations))
            self.assertEqual(str(job), f"job of {len(job.operations)} operations, {len(job.arcs)} arcs")

    def test_arcs(self):
        random = seeded(602)
        many = 0
        for _ in range(200):
            job = draw_job(random, spread=5)
            self.assertEqual(job.arcs, second_arcs(job))
            self.assertTrue(ascending(job.arcs))
            many += len([arc for arc in job.arcs if arc[2] <= 0])
        self.assertGreater(many, 40)

    def test_arcs_with_distance_0_lead_nowhere_back(self):
        random = seeded(603)
        for _ in range(100):
            job = draw_job(random)
            left = list(job.operations)
            arcs = [arc for arc in job.arcs if arc[3] == 0]
            while left:
                free = [text for text in left if not any(arc[1] == text and arc[0] in left for arc in arcs)]
                self.assertTrue(free)
                left = [text for text in left if text not in free]


class EdgesTest(unittest.TestCase):
    def test_an_operation_with_an_arc_to_itself(self):
        job = Job(DOT, CHIP, COVER)
        self.assertIn(("sum", "sum", 1, 1), job.arcs)
        self.assertEqual(job.operands("sum"), (("sum", 1), ("mul", 0)))

    def test_a_store_and_a_load_within_one_operation(self):
        machine = Machine.from_lines("pattern all 3 1 : = f ( @ )")
        job = Job(PAIRS, machine, {"put": "all"})
        self.assertEqual(job.arcs, (("put", "put", 3, 1),))
        self.assertEqual((job.loaded("put"), job.operands("put"), job.valued), (("put.0.0",), (), ()))
        own = Job(Body(("store", "put", "x", 1, 0, ("op", "f", ("load", "x", 1, 0)))), machine, {"put": "all"})
        self.assertEqual(own.arcs, ())
        later = Job(Body(("store", "put", "x", 1, 0, ("op", "f", ("load", "x", 1, 2)))), machine, {"put": "all"})
        self.assertEqual(later.arcs, (("put", "put", -2, 2),))

    def test_arcs_are_there_once(self):
        body = Body(("set", "a", ("load", "x", 1, 0)), ("set", "b", ("op", "g", ("at", "a", 1), ("at", "a", 1))))
        machine = Machine.from_lines("pattern get 2 1 : @", "pattern g 1 1 : g ( _ _ )")
        job = Job(body, machine, {"a": "get", "b": "g"})
        self.assertEqual(job.arcs, (("a", "b", 2, 1),))
        self.assertEqual(job.operands("b"), (("a", 1), ("a", 1)))

    def test_an_at_below_a_store(self):
        body = Body(("set", "a", ("op", "h")), ("store", "s", "x", 1, 0, ("at", "a", 3)))
        machine = Machine.from_lines("pattern h 4 0 : h ( )", "pattern put 1 1 : = _")
        job = Job(body, machine, {"a": "h", "s": "put"})
        self.assertEqual((job.arcs, job.operands("s"), job.cost), ((("a", "s", 4, 3),), (("a", 3),), 1))

    def test_far_arcs(self):
        far = 10**29
        body = Body(("store", "s", "x", 1, 0, ("load", "x", 1, -far)))
        job = Job(body, ONES, {"s": "put", "s.0": "get"})
        self.assertEqual(job.arcs, (("s", "s.0", 1, far), ("s.0", "s", 2, 0)))


class RunsTest(unittest.TestCase):
    def test_scalars_and_cells(self):
        random = seeded(610)
        for _ in range(80):
            job = draw_job(random)
            rounds = random.randint(0, 9)
            scalars, cells = job.body.run(rounds, *symbols())
            values, stored = job.run(rounds, *symbols())
            self.assertEqual({name: values[name] for name in job.body.scalars}, scalars)
            self.assertEqual(stored, cells)
            self.assertEqual(list(stored), sorted(stored))
            self.assertEqual(list(values), list(job.valued))

    def test_the_value_of_an_operation_is_that_of_its_tree(self):
        random = seeded(611)
        for _ in range(60):
            job = draw_job(random)
            values, _ = job.run(5, *symbols())
            for text in job.valued:
                if "." in text:
                    owner = text.split(".")[0]
                    rows = []
                    for row in job.body.statements:
                        # A statement of its own, that nothing reads, has the same value.
                        rows += [("set", "qqqq", job.body.tree(text)), row] if row[1] == owner else [row]
                    if len(job.body.operations) + nodes(job.body.tree(text)) <= 24:
                        self.assertEqual(Body(*rows).run(5, *symbols())[0]["qqqq"], values[text])

    def test_two_covers_and_two_machines(self):
        random = seeded(612)
        for _ in range(60):
            body = draw_body(random)
            runs = []
            for machine in (unit_machine(random), full_machine(random)):
                number = random.randrange(count_covers(body, machine))
                values, cells = Job(body, machine, cover_at(body, machine, number)).run(6, *symbols())
                runs.append(({name: values[name] for name in body.scalars}, cells))
            self.assertEqual(runs[0], runs[1])

    def test_rounds(self):
        job = Job(DOT, CHIP, COVER)
        self.assertEqual(job.run(0, *symbols()), ({"mul": (), "mul.1": (), "sum": ()}, {}))
        self.assertEqual(len(job.run(64, *symbols())[0]["sum"]), 64)
        for value in odd_values():
            if type(value) is not int or not 0 <= value <= 64:
                refuses_number(self, value, job.run, value, None, None, None)


class ObjectTest(unittest.TestCase):
    def test_equal_jobs(self):
        job = Job(DOT, CHIP, COVER)
        same = Job(Body(*DOT.statements), Machine.of_lines(CHIP.lines), dict(reversed(list(COVER.items()))))
        self.assertEqual(job, same)
        self.assertEqual((list(same.cover), list(same), same.arcs), (sorted(COVER), sorted(COVER), job.arcs))
        other = Job(DOT, CHIP, {"mul": "mul", "mul.0": "get", "mul.1": "get", "sum": "add"})
        for value in (other, Job(DOT, CHIP.with_cost("add", 7), COVER), DOT, None, COVER):
            self.assertNotEqual(job, value)
        self.assertNotEqual(job, Job(DOT.shifted("a", 1), CHIP, COVER))

    def test_nothing_gives_access_to_the_state(self):
        cover = dict(COVER)
        job = Job(DOT, CHIP, cover)
        cover["sum"] = "mul"
        job.cover.clear()
        self.assertEqual(job, Job(DOT, CHIP, COVER))
        self.assertEqual(job.cover, COVER)
        self.assertEqual((job.body, job.machine), (DOT, CHIP))

    def test_names(self):
        job = Job(DOT, CHIP, COVER)
        for value in [*odd_values(), "mul.0", "put", "mul.2"]:
            self.assertIs(value in job, False)
            refuses_name(self, value, job.__getitem__, value)
            for call in (job.ticks, job.uses, job.operands, job.loaded, job.above):
                refused(self, InvalidArgument, call, value)
        for value in COVER:
            self.assertIs(value in job, True)


class WrongArgumentsTest(unittest.TestCase):
    def test_arguments(self):
        for value in odd_values():
            if not isinstance(value, Body):
                refused(self, InvalidBody, Job, value, None, None)
            if not isinstance(value, Machine):
                refused(self, InvalidMachine, Job, DOT, value, None)
            refused(self, InvalidCover, Job, DOT, CHIP, value)

    def test_nothing_is_changed(self):
        cover, job = {**COVER, "sum": "mul"}, Job(DOT, CHIP, COVER)
        refused(self, InvalidCover, Job, DOT, CHIP, cover)
        refuses_number(self, 65, job.run, 65, None, None, None)
        refused(self, InvalidArgument, job.ticks, "mul.0")
        refuses_name(self, "mul.0", job.__getitem__, "mul.0")
        self.assertEqual((cover, job), ({**COVER, "sum": "mul"}, Job(DOT, CHIP, COVER)))
        self.assertEqual((DOT.names, CHIP.names), (("mul", "sum"), ("add", "mul", "mulld", "get", "f", "put")))

    def test_covers(self):
        for key, worth in (("sum", "mul"), ("sum", None), ("mul.0", "get"), ("mul", "mul"), ("mul.1", "mulld")):
            refused(self, InvalidCover, Job, DOT, CHIP, {**COVER, key: worth})
        for key in COVER:
            refused(self, InvalidCover, Job, DOT, CHIP, {at: name for at, name in COVER.items() if at != key})


if __name__ == "__main__":
    unittest.main()
