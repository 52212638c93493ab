"""Named and inlined trees, and merged operations, by their runs, covers, arcs and plans."""

import unittest

from loopfoundry.covers.covers import cover_cost, is_cover
from loopfoundry.covers.orders import count_covers, each_cover
from loopfoundry.errors import InvalidArgument, InvalidBody, InvalidJob
from loopfoundry.jobs.jobs import Job
from loopfoundry.jobs.rewrites import inlined, is_easy_merge, keeps_findings, merged, named, named_operation
from loopfoundry.jobs.runs import is_right
from loopfoundry.machine.machines import Machine, is_pattern
from loopfoundry.memory.flows import found_by
from loopfoundry.plans.plans import is_plan
from loopfoundry.source.bodies import Body
from tests.helpers import (
    CHIP,
    DOT,
    PAIRS,
    draw_body,
    draw_job,
    fitting_starts,
    odd_values,
    refused,
    refuses_name,
    seeded,
    symbols,
    unit_machine,
)

LIMIT = 24


def inner_operations(body):
    return [text for text in body.operations if text not in body.names]


def findings(body, rename):
    rows = {}
    for load, *_ in body.loads:
        rows[rename(load)] = [found_by(body, load, number) for number in range(LIMIT)]
    return rows


class NamedTest(unittest.TestCase):
    def draw(self, number, many, **more):
        random = seeded(number)
        while many:
            body = draw_body(random, **more)
            if inner_operations(body):
                many -= 1
                yield random, body, random.choice(inner_operations(body))

    def test_the_body(self):
        for random, body, text in self.draw(650, 150):
            new = named(body, text, "new")
            owner = text.split(".")[0]
            at = body.names.index(owner)
            self.assertEqual(new.names, (*body.names[:at], "new", *body.names[at:]))
            self.assertEqual(new["new"], ("set", "new", body.tree(text)))
            self.assertIn((owner, "new", 0), new.reads)
            self.assertEqual(len(new.operations), len(body.operations))
            scalars, cells = new.run(6, *symbols())
            scalars.pop("new")
            self.assertEqual((scalars, cells), body.run(6, *symbols()))

    def test_operations(self):
        for _, body, text in self.draw(651, 100):
            new, seen = named(body, text, "new"), []
            for other in body.operations:
                told = named_operation(body, text, "new", other)
                seen.append(told)
                below = other == text or other.startswith(text + ".")
                self.assertEqual(told, "new" + other[len(text) :] if below else other)
                if not text.startswith(other + ".") and other != text.split(".")[0]:
                    self.assertEqual(new.tree(told), body.tree(other))
            self.assertEqual(sorted(seen), list(new.operations))

    def test_covers_and_arcs(self):
        many = 0
        for random, body, text in self.draw(652, 60, limit=9):
            machine = unit_machine(random)
            if count_covers(body, machine) > 300:
                continue
            new = named(body, text, "new")

            def moved(cover):
                return {named_operation(body, text, "new", other): name for other, name in cover.items()}

            old = [cover for cover in each_cover(body, machine) if text in cover]
            self.assertEqual(count_covers(new, machine), len(old))
            for cover in old[:20]:
                many += 1
                self.assertIs(is_cover(new, machine, moved(cover)), True)
                self.assertEqual(cover_cost(new, machine, moved(cover)), cover_cost(body, machine, cover))
                arcs = {
                    (*[named_operation(body, text, "new", at) for at in arc[:2]], *arc[2:])
                    for arc in Job(body, machine, cover).arcs
                }
                self.assertEqual(Job(new, machine, moved(cover)).arcs, tuple(sorted(arcs)))
        self.assertGreater(many, 100)

    def test_inlined_again(self):
        for _, body, text in self.draw(653, 100):
            new = named(body, text, "new")
            self.assertEqual(inlined(new, "new"), body)
            self.assertIs(keeps_findings(new, "new"), True)

    def test_the_tree_of_a_store_can_be_named(self):
        new = named(PAIRS, "put.0", "t")
        self.assertEqual(new.statements[1], ("store", "put", "x", 1, 0, ("at", "t", 0)))
        self.assertEqual(named_operation(PAIRS, "put.0", "t", "put.0.0"), "t.0")
        self.assertEqual(named_operation(PAIRS, "put.0", "t", "put"), "put")

    def test_wrong_arguments(self):
        for value in odd_values():
            if not isinstance(value, Body):
                refused(self, InvalidBody, named, value, None, None)
                refused(self, InvalidBody, named_operation, value, None, None, None)
            refused(self, InvalidArgument, named, DOT, value, "b")
            refused(self, InvalidArgument, named_operation, DOT, value, "b", "mul")
            refused(self, InvalidArgument, named_operation, DOT, "mul.0", "b", value)
            if value != "a":
                refused(self, InvalidArgument, named, DOT, "mul.0", value)
                refused(self, InvalidArgument, named_operation, DOT, "mul.0", value, None)
        for text in ("mul", "sum", "sum.0", "sum.1", "mul.2", "mul.0.0"):
            refused(self, InvalidArgument, named, DOT, text, "b")
            refused(self, InvalidArgument, named_operation, DOT, text, "b", "mul")
        for name in ("mul", "sum", "Sum", "abcdefghi"):
            refused(self, InvalidArgument, named, DOT, "mul.0", name)
        for other in ("mul.2", "sum.0", "b", "x"):
            refused(self, InvalidArgument, named_operation, DOT, "mul.0", "b", other)


class InlinedTest(unittest.TestCase):
    def test_drawn_bodies(self):
        random = seeded(660)
        kinds = {"kept": 0, "lost": 0, "none": 0, "read": 0}
        while min(kinds.values()) < 12:
            body = draw_body(random, most=5, levels=random.randint(2, 4), spread=2)
            for name in body.scalars:
                count = sum(str(row[-1]).count(f"'at', '{name}', ") for row in body.statements)
                readers = [reader for reader, read, distance in body.reads if read == name and distance == 0]
                if count != 1 or not readers:
                    kinds["read"] += 1
                    refused(self, InvalidArgument, inlined, body, name)
                    refused(self, InvalidArgument, keeps_findings, body, name)
                    continue
                rows = self.second(body, name, readers[0])
                try:
                    wanted = Body(*rows)
                except InvalidBody:
                    kinds["none"] += 1
                    refused(self, InvalidBody, inlined, body, name)
                    refused(self, InvalidBody, keeps_findings, body, name)
                    continue
                new = inlined(body, name)
                self.assertEqual(new, wanted)
                kept = self.do_loads_find_the_same(body, new, name, readers[0])
                self.assertIs(keeps_findings(body, name), kept)
                kinds["kept" if kept else "lost"] += 1
                if kept:
                    scalars, cells = body.run(8, *symbols())
                    scalars.pop(name)
                    self.assertEqual(new.run(8, *symbols()), (scalars, cells))

    def second(self, body, name, reader):
        def change(tree):
            if tree == ("at", name, 0):
                return body[name][2]
            return (*tree[:2], *[change(below) for below in tree[2:]]) if tree[0] == "op" else tree

        return [(*row[:-1], change(row[-1])) for row in body.statements if row[1] != name]

    def do_loads_find_the_same(self, body, new, name, reader):
        at = self.text_of(body, name, reader)

        def rename(load):
            return load if load.split(".")[0] != name else at + load[len(name) :]

        return findings(body, rename) == findings(new, lambda load: load)

    def text_of(self, body, name, reader):
        def find(tree, text):
            if tree == ("at", name, 0):
                return text
            rows = [find(below, f"{text}.{k}") for k, below in enumerate(tree[2:])] if tree[0] == "op" else []
            return next((row for row in rows if row), None)

        row = body[reader]
        return find(row[-1], reader + (".0" if row[0] == "store" else ""))

    def test_a_store_between(self):
        rows = [
            ("set", "a", ("load", "x", 1, 0)),
            ("store", "s", "x", 2, -6, ("op", "h")),
            ("set", "b", ("op", "f", ("at", "a", 0))),
        ]
        self.assertIs(keeps_findings(Body(*rows), "a"), False)
        self.assertEqual(inlined(Body(*rows), "a").names, ("s", "b"))
        rows[1] = ("store", "s", "x", 2, 6, ("op", "h"))
        self.assertIs(keeps_findings(Body(*rows), "a"), True)
        rows[1] = ("store", "s", "y", 2, -6, ("op", "h"))
        self.assertIs(keeps_findings(Body(*rows), "a"), True)
        far = 10**29
        rows[1] = ("store", "s", "x", 2, -far, ("op", "h"))
        self.assertIs(keeps_findings(Body(*rows), "a"), False)
        rows[1] = ("store", "s", "x", 2, far, ("op", "h"))
        self.assertIs(keeps_findings(Body(*rows), "a"), True)

    def test_a_store_that_reads_it_stores_behind_it(self):
        body = Body(("set", "a", ("load", "x", 1, 0)), ("store", "s", "x", 1, 0, ("at", "a", 0)))
        self.assertIs(keeps_findings(body, "a"), True)
        self.assertEqual(inlined(body, "a"), Body(("store", "s", "x", 1, 0, ("load", "x", 1, 0))))

    def test_wrong_arguments(self):
        for value in odd_values():
            if not isinstance(value, Body):
                refused(self, InvalidBody, inlined, value, None)
                refused(self, InvalidBody, keeps_findings, value, None)
            refuses_name(self, value, inlined, DOT, value)
            refuses_name(self, value, keeps_findings, DOT, value)
        refuses_name(self, "put", inlined, PAIRS, "put")
        refused(self, InvalidArgument, inlined, DOT, "sum")
        twice = Body(("set", "a", ("op", "h")), ("set", "b", ("op", "g", ("at", "a", 0), ("at", "a", 0))))
        never = Body(("set", "a", ("op", "h")))
        later = Body(("set", "a", ("op", "h")), ("set", "b", ("op", "f", ("at", "a", 1))))
        both = Body(("set", "a", ("op", "h")), ("set", "b", ("op", "g", ("at", "a", 0), ("at", "a", 1))))
        for body in (twice, never, later, both):
            refused(self, InvalidArgument, inlined, body, "a")
            refused(self, InvalidArgument, keeps_findings, body, "a")

    def test_one_name_of_several_things(self):
        body = Body(("set", "f", ("load", "f", 1, 0)), ("set", "b", ("op", "f", ("at", "f", 0), ("load", "f", 2, 0))))
        self.assertEqual(inlined(body, "f"), Body(("set", "b", ("op", "f", ("load", "f", 1, 0), ("load", "f", 2, 0)))))
        self.assertIs(keeps_findings(body, "f"), True)

    def test_too_many_levels(self):
        tree = ("op", "f", ("op", "f", ("op", "f", ("load", "x", 1, 0))))
        body = Body(("set", "a", tree), ("set", "b", ("op", "f", ("at", "a", 0))))
        refused(self, InvalidBody, inlined, body, "a")
        refused(self, InvalidBody, keeps_findings, body, "a")


class MergedTest(unittest.TestCase):
    def draw(self, number, many):
        random = seeded(number)
        while many:
            job = self.with_a_merging_pattern(random, draw_job(random, limit=12))
            rows = [
                (text, name) for text in job.operations if job.above(text) is not None for name in job.machine.names
            ]
            for text, name in rows:
                yield random, job, text, name
            many -= 1

    def with_a_merging_pattern(self, random, job):
        """The job by a machine with a pattern that covers two of its operations, if there is room for it."""
        inner = [text for text in job.operations if job.above(text) is not None]
        unused = [name for name in job.machine.names if name not in job.cover.values()]
        if not inner or not unused:
            return job
        text = random.choice(inner)
        outer = job.above(text)
        path = [int(index) for index in text[len(outer) + 1 :].split(".")]
        shape = self.filled(job.machine.pattern(job[outer])[1], path, job.machine.pattern(job[text])[1])
        ticks = random.choice((1, 2, job.ticks(outer), job.ticks(outer)))
        uses = tuple(use for use in job.uses(outer) if random.random() < 0.7)
        if random.random() < 0.2:
            uses = job.uses(text)
        pattern = ("mg", shape, ticks, 1, uses)
        if not is_pattern(pattern):
            return job
        machine = job.machine.without_pattern(random.choice(unused)).with_pattern(pattern)
        return Job(job.body, machine, job.cover)

    def filled(self, shape, path, inner):
        if not path:
            return inner
        at = path[0] + (1 if shape[0] == "store" else 2)
        return (*shape[:at], self.filled(shape[at], path[1:], inner), *shape[at + 1 :])

    def covered(self, job, text, name):
        """The nodes that a pattern covers where it fits, or None."""
        rows = []

        def walk(shape, node, at):
            if shape[0] == "hole":
                return True
            rows.append(at)
            if shape[0] == "load":
                return node[0] == "load"
            if shape[0] == "store":
                return node[0] == "store" and walk(shape[1], node[5], at + ".0")
            if node[0] != "op" or node[1] != shape[1] or len(node) != len(shape):
                return False
            return all(walk(shape[k], node[k], f"{at}.{k - 2}") for k in range(2, len(shape)))

        return sorted(rows) if walk(job.machine.pattern(name)[1], job.body.tree(text), text) else None

    def test_covers(self):
        many = {True: 0, False: 0}
        for _, job, text, name in self.draw(670, 400):
            outer = job.above(text)
            both = sorted(self.covered(job, outer, job[outer]) + self.covered(job, text, job[text]))
            fine = self.covered(job, outer, name) == both
            many[fine] += 1
            if not fine:
                refused(self, InvalidArgument, merged, job, text, name)
                refused(self, InvalidArgument, is_easy_merge, job, text, name)
                continue
            new = merged(job, text, name)
            cover = {at: pattern for at, pattern in job.cover.items() if at != text}
            self.assertEqual(new, Job(job.body, job.machine, {**cover, outer: name}))
            self.assertEqual(new.run(5, *symbols())[1], job.run(5, *symbols())[1])
        self.assertGreater(many[True], 60)
        self.assertGreater(many[False], 500)

    def test_easy_merges(self):
        easy = {True: 0, False: 0}
        for random, job, text, name in self.draw(671, 900):
            outer = job.above(text)
            both = sorted(self.covered(job, outer, job[outer]) + self.covered(job, text, job[text]))
            if self.covered(job, outer, name) != both:
                continue
            pattern = job.machine.pattern(name)
            slow = pattern[2] > job.ticks(outer) or (outer in job.body.names and job.body[outer][0] == "store")
            if outer in job.body.names and job.body[outer][0] == "store":
                slow = pattern[2] != job.ticks(outer)
            more = not set(pattern[4]) <= set(job.uses(outer))
            loads = [row for row in job.body.loads if row[0] in job.loaded(text)]
            anti = any(
                store != outer and self.are_anti(job.body, (store, *place), load)
                for store, *place in job.body.stores
                for load in loads
            )
            told = is_easy_merge(job, text, name)
            self.assertIs(told, not (slow or more or anti))
            easy[told] += 1
            if told:
                self.check_starts(random, job, text, name)
        self.assertGreater(easy[True], 20)
        self.assertGreater(easy[False], 50)

    def are_anti(self, body, store, load):
        name, array, step, offset = store
        text, other, load_step, load_offset = load
        ahead = body.names.index(name) < body.names.index(text.split(".")[0])
        return array == other and any(
            step * i + offset == load_step * j + load_offset and (j < i or (j == i and not ahead))
            for i in range(40)
            for j in range(i + 1)
        )

    def check_starts(self, random, job, text, name):
        new = merged(job, text, name)
        for _ in range(5):
            interval = random.randint(1, 9)
            starts = fitting_starts(random, job, interval)
            if starts is not None:
                fewer = {at: tick for at, tick in starts.items() if at != text}
                self.assertIs(is_right(new, interval, fewer), True)
                if is_plan(job, interval, starts):
                    self.assertIs(is_plan(new, interval, fewer), True)

    def test_each_condition(self):
        lines = ["unit u 1", "pattern get 2 1 : @", "pattern f 2 1 u 0 : f ( _ )", "pattern put 1 1 : = _"]
        job = Job(PAIRS, Machine.from_lines(*lines), {"put": "put", "put.0": "f", "put.0.0": "get"})
        for line, easy in (
            ("pattern fl 2 1 u 0 : f ( @ )", True),
            ("pattern fl 1 1 : f ( @ )", True),
            ("pattern fl 3 1 u 0 : f ( @ )", False),
            ("pattern fl 2 1 u 1 : f ( @ )", False),
            ("pattern fl 2 1 u 0 u 1 : f ( @ )", False),
        ):
            machine = Machine.from_lines(*lines, line)
            told = is_easy_merge(Job(PAIRS, machine, job.cover), "put.0.0", "fl")
            # The load has an anti arc to the store, which is not the outer operation.
            self.assertIs(told, False)
            body = Body(("store", "put", "y", 1, 0, PAIRS["put"][5]))
            self.assertIs(is_easy_merge(Job(body, machine, job.cover), "put.0.0", "fl"), easy)
        for ticks, easy in ((1, True), (2, False)):
            machine = Machine.from_lines(*lines, f"pattern fput {ticks} 1 : = f ( _ )")
            self.assertIs(is_easy_merge(Job(PAIRS, machine, job.cover), "put.0", "fput"), easy)
        copy = Body(("store", "put", "x", 1, 0, ("load", "x", 1, 1)))
        for ticks, easy in ((1, False), (3, True)):
            machine = Machine.from_lines("pattern l 1 1 : @", "pattern p 3 1 : = _", f"pattern lp {ticks} 1 : = @")
            self.assertIs(is_easy_merge(Job(copy, machine, {"put": "p", "put.0": "l"}), "put.0", "lp"), easy)

    def test_wrong_arguments(self):
        job = Job(DOT, CHIP, {"mul": "mul", "mul.0": "get", "mul.1": "get", "sum": "add"})
        for value in odd_values():
            for call in (merged, is_easy_merge):
                if not isinstance(value, Job):
                    refused(self, InvalidJob, call, value, None, None)
                refused(self, InvalidArgument, call, job, value, None)
                refuses_name(self, value, call, job, "mul.0", value)
        for text in ("mul", "sum", "sum.0", "mul.2"):
            refused(self, InvalidArgument, merged, job, text, "mulld")
        for text, name in (("mul.1", "mulld"), ("mul.0", "mul"), ("mul.0", "get"), ("mul.0", "put")):
            refused(self, InvalidArgument, merged, job, text, name)
        self.assertEqual(merged(job, "mul.0", "mulld").cover, {"mul": "mulld", "mul.1": "get", "sum": "add"})


if __name__ == "__main__":
    unittest.main()
