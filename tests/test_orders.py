"""Orders of statements, held against all orders of small bodies and what their loads find."""

import unittest
from itertools import islice, permutations
from math import factorial

from loopfoundry.covers.orders import count_covers, cover_at
from loopfoundry.errors import InvalidArgument, InvalidBody, TooMany
from loopfoundry.jobs.jobs import Job
from loopfoundry.jobs.orders import (
    bound,
    each_order,
    first_order,
    how_many_orders,
    is_order_paper,
    order_paper,
    reordered,
)
from loopfoundry.memory.flows import found_by
from loopfoundry.source.bodies import Body
from tests.helpers import DOT, PAIRS, draw_body, odd_values, refused, seeded, unit_machine

LIMIT = 24
COPY = Body(("store", "put", "x", 1, 0, ("load", "x", 1, 0)), ("set", "y", ("op", "neg", ("load", "x", 1, 0))))


def ordered(body, names):
    """The body in an order, or None."""
    try:
        return Body(*[body[name] for name in names])
    except InvalidBody:
        return None


def findings(body):
    rows = {}
    for load, *_ in body.loads:
        for number in range(LIMIT):
            told = found_by(body, load, number)
            # What an earlier round wrote is found in every order.
            rows[load, number] = told if told is not None and told[1] == number else None
    return rows


def all_findings(body):
    return {(load, number): found_by(body, load, number) for load, *_ in body.loads for number in range(LIMIT)}


def draw_ordered(random, most=5):
    return draw_body(random, most=most, levels=2, spread=3)


class DrawnOrdersTest(unittest.TestCase):
    def test_orders_by_what_loads_find(self):
        random = seeded(640)
        parted, several = 0, 0
        for _ in range(150):
            body = draw_ordered(random)
            wanted = findings(body)
            rows = []
            for names in sorted(permutations(body.names)):
                other = ordered(body, names)
                if other is None:
                    refused(self, InvalidBody, reordered, body, names)
                    refused(self, InvalidBody, order_paper, body, names)
                    continue
                self.assertEqual(reordered(body, names), other)
                same = findings(other) == wanted
                self.assertEqual(all_findings(other) == all_findings(body), same)
                paper = order_paper(body, names)
                self.assertEqual(paper[0], "exchanges" if same else "bound")
                self.assertIs(is_order_paper(body, names, paper), True)
                if same:
                    rows.append(names)
                else:
                    parted += 1
            several += len(rows) > 1
            self.assertEqual(list(each_order(body)), rows)
            self.assertEqual(how_many_orders(body), len(rows))
            self.assertEqual(first_order(body), rows[0])
        self.assertGreater(parted, 100)
        self.assertGreater(several, 60)

    def test_bound_statements(self):
        random = seeded(641)
        for _ in range(150):
            body, rows = draw_ordered(random), set()
            for reader, name, distance in body.reads:
                if distance == 0:
                    rows.add((name, reader))
            for store, array, step, offset in body.stores:
                for load, other, other_step, other_offset in body.loads:
                    name = load.split(".")[0]
                    meet = any(step * i + offset == other_step * i + other_offset for i in range(60))
                    if array == other and name != store and meet:
                        rows.add(tuple(sorted((store, name), key=body.names.index)))
            self.assertEqual(bound(body), tuple(sorted(rows)))

    def test_arcs_stay(self):
        random = seeded(642)
        moved = 0
        for _ in range(60):
            body, machine = draw_ordered(random), unit_machine(random)
            cover = cover_at(body, machine, random.randrange(count_covers(body, machine)))
            for names in islice(each_order(body), 12):
                other = reordered(body, names)
                self.assertEqual(Job(other, machine, cover).arcs, Job(body, machine, cover).arcs)
                moved += names != body.names
        self.assertGreater(moved, 100)


class PapersTest(unittest.TestCase):
    def test_any_row_of_exchanges_that_leads_there(self):
        random = seeded(643)
        for _ in range(150):
            body = draw_ordered(random)
            pairs, names, indices = bound(body), list(body.names), []
            for _ in range(random.randint(0, 12)):
                if len(names) > 1:
                    at = random.randrange(len(names) - 1)
                    if (names[at], names[at + 1]) not in pairs:
                        names[at : at + 2] = names[at + 1], names[at]
                        indices.append(at)
            self.assertIs(is_order_paper(body, tuple(names), ("exchanges", tuple(indices))), True)
            if indices:
                self.assertIs(is_order_paper(body, tuple(names), ("exchanges", tuple(indices[:-1]))), False)
                self.assertIs(is_order_paper(body, tuple(names), ("exchanges", (*indices, 0))), False)
            twice = (*indices, *[at for at in (0,) * 2 if len(names) > 1 and (names[0], names[1]) not in pairs])
            self.assertIs(is_order_paper(body, tuple(names), ("exchanges", twice)), True)

    def test_bound_ones_are_never_exchanged(self):
        body = Body(*COPY.statements, ("set", "b", ("op", "h")))
        self.assertEqual(bound(body), (("put", "y"),))
        names = ("put", "y", "b")
        self.assertIs(is_order_paper(body, names, ("exchanges", ())), True)
        self.assertIs(is_order_paper(body, names, ("exchanges", (0, 0))), False)
        self.assertIs(is_order_paper(body, names, ("exchanges", (1, 1))), True)
        self.assertIs(is_order_paper(body, ("b", "put", "y"), ("exchanges", (1, 0))), True)
        other = ("y", "put", "b")
        self.assertEqual(order_paper(body, other), ("bound", "put", "y"))
        for value in (("bound", "y", "put"), ("bound", "put", "b"), ("bound", "put"), ("bound", "put", "y", "b")):
            self.assertIs(is_order_paper(body, other, value), False)
        self.assertIs(is_order_paper(body, names, ("bound", "put", "y")), False)
        self.assertIs(is_order_paper(body, other, ("exchanges", (0,))), False)
        self.assertIs(is_order_paper(body, other, ("bond", "put", "y")), False)
        last = ("b", "y", "put")
        self.assertIs(is_order_paper(body, last, ("bound", "put", "b")), False)
        self.assertIs(is_order_paper(body, last, ("bound", "put", "y")), True)

    def test_bent_papers(self):
        names = ("b", "a")
        body = Body(("set", "a", ("op", "h")), ("set", "b", ("op", "h")))
        self.assertIs(is_order_paper(body, names, ("exchanges", (0,))), True)
        rows = [(False,), (-1,), (1,), (None,), ("0",), [0], (0, 0), (), (0, 0, 0, 0)]
        bent = [("exchange", (0,)), ("bound", (0,)), ("bound", "a", "b")]
        bent += [("exchanges", row) for row in rows] + [("exchanges",), ("exchanges", (0,), ()), ["exchanges", (0,)]]
        for value in [*odd_values(), *bent]:
            self.assertIs(is_order_paper(body, names, value), False, value)
        self.assertIs(is_order_paper(body, names, ("exchanges", (0, 0, 0))), True)


class EdgesTest(unittest.TestCase):
    def free(self, many):
        return Body(*[("set", "abcdefghijklm"[k] * 2, ("op", "h")) for k in range(many)])

    def test_twelve_and_thirteen_statements(self):
        body = self.free(12)
        self.assertEqual(how_many_orders(body), factorial(12))
        self.assertEqual(first_order(body), body.names)
        rows = list(islice(each_order(body), 3))
        self.assertEqual(rows, [(*body.names[:9], *more) for more in list(permutations(body.names[9:]))[:3]])
        wide = self.free(13)
        for call in (how_many_orders, first_order, lambda value: next(each_order(value))):
            self.assertEqual(refused(self, TooMany, call, wide).limit, 12)
        back = tuple(reversed(wide.names))
        self.assertEqual(bound(wide), ())
        self.assertEqual(reordered(wide, back).names, back)
        self.assertIs(is_order_paper(wide, back, order_paper(wide, back)), True)

    def test_one_order(self):
        rows = [("set", "a", ("op", "h"))]
        rows += [("set", name, ("op", "f", ("at", before, 0))) for before, name in zip("abcdefghijk", "bcdefghijkl")]
        body = Body(*rows)
        self.assertEqual(len(body), 12)
        self.assertEqual(list(each_order(body)), [body.names])
        self.assertEqual(how_many_orders(body), 1)

    def test_rounds_far_away(self):
        far = 10**25
        store = ("store", "s", "x", 2, far, ("op", "h"))
        for offset, pairs in ((0, (("a", "s"),)), (1, (("a", "s"),)), (-far, (("a", "s"),)), (3 * far, ())):
            body = Body(("set", "a", ("load", "x", 3, offset)), store)
            self.assertEqual(bound(body), pairs)
            self.assertEqual(how_many_orders(body), 1 if pairs else 2)

    def test_a_load_of_the_own_statement_binds_nothing(self):
        self.assertEqual(bound(PAIRS), ())
        self.assertEqual(list(each_order(PAIRS)), [("put",)])
        self.assertEqual(order_paper(PAIRS, ("put",)), ("exchanges", ()))


class WrongArgumentsTest(unittest.TestCase):
    def test_bodies(self):
        for value in odd_values():
            if isinstance(value, Body):
                continue
            for call in (bound, how_many_orders, first_order, lambda body: next(each_order(body))):
                refused(self, InvalidBody, call, value)
            for call in (reordered, order_paper):
                refused(self, InvalidBody, call, value, None)
            refused(self, InvalidBody, is_order_paper, value, None, None)

    def test_names(self):
        rows = [("mul",), ("sum", "mul", "sum"), ("mul", "mul"), ("mul", "su"), ["mul", "sum"], ("mul", None), ("mul", [])]
        for value in [*odd_values(), *rows, ("mul", "sum", "x"), ("mul", DOT)]:
            refused(self, InvalidArgument, reordered, DOT, value)
            refused(self, InvalidArgument, order_paper, DOT, value)
            refused(self, InvalidArgument, is_order_paper, DOT, value, None)
        refused(self, InvalidBody, reordered, DOT, ("sum", "mul"))
        refused(self, InvalidBody, is_order_paper, DOT, ("sum", "mul"), ("bound", "mul", "sum"))
        self.assertEqual(DOT.names, ("mul", "sum"))


if __name__ == "__main__":
    unittest.main()
