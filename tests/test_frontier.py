"""Frontiers, cover by cover and interval by interval, and their papers."""

import unittest

from loopfoundry.covers.covers import cheapest, cover_cost, fitting
from loopfoundry.covers.orders import count_covers, each_cover
from loopfoundry.errors import InvalidBody, InvalidMachine, TooMany
from loopfoundry.jobs.jobs import Job
from loopfoundry.machine.machines import Machine
from loopfoundry.plans.plans import is_plan
from loopfoundry.search.frontier import frontier, frontier_paper, is_frontier_paper, least_cost, least_interval
from loopfoundry.search.ways import has_way, way_paper
from loopfoundry.source.bodies import Body
from tests.helpers import (
    CHIP,
    DOT,
    PAIRS,
    SecondJudge,
    all_slots_plan,
    bent_values,
    draw_body,
    odd_values,
    refused,
    refuses_number,
    seeded,
    unit_machine,
)


def draw_world(random, limit=5, most_covers=30):
    """A body that has covers, and a machine, both small."""
    while True:
        body, machine = draw_body(random, limit=limit, spread=3), unit_machine(random, chance=0.7)
        try:
            has_way(body, machine, 32, most=0)
        except TooMany:
            continue
        if 1 <= count_covers(body, machine) <= most_covers:
            return body, machine


def second_costs(body, machine, most):
    """The least cost for each interval up to `most`, by all covers and slots; None where there is none."""
    rows = []
    for interval in range(1, most + 1):
        fine = [cover for cover in each_cover(body, machine) if all_slots_plan(Job(body, machine, cover), interval)]
        rows.append(min([cover_cost(body, machine, cover) for cover in fine], default=None))
    return rows


def second_frontier(costs):
    rows = []
    for place, cost in enumerate(costs):
        if cost is not None and (not rows or cost < rows[-1][1]):
            rows.append((place + 1, cost))
    return tuple(rows)


def second_right(body, machine, value):
    """A plain judge of the papers of a body that has covers."""
    if type(value) is not tuple or len(value) != 2 or value[0] != "frontier" or type(value[1]) is not tuple:
        return False
    if not value[1] or any(type(row) is not tuple or len(row) != 5 for row in value[1]):
        return False
    before, begin = None, 1
    for interval, cost, cover, starts, bars in value[1]:
        if type(interval) is not int or type(cost) is not int or not begin <= interval <= 32:
            return False
        if before is not None and cost >= before:
            return False
        if cover not in list(each_cover(body, machine)) or cover_cost(body, machine, cover) != cost:
            return False
        if not is_plan(Job(body, machine, cover), interval, starts) or type(bars) is not tuple:
            return False
        wanted = [(other, None if before is None else before - 1) for other in range(begin, interval)]
        wanted += [(interval, cost - 1)] if cost else []
        if len(bars) != len(wanted):
            return False
        for (other, most), tree in zip(wanted, bars):
            if not SecondJudge(body, machine, other, most).is_right(tree, {}, {}):
                return False
        before, begin = cost, interval + 1
    return before == cover_cost(body, machine, cheapest(body, machine))


class DrawnWorldsTest(unittest.TestCase):
    def test_by_all_covers_and_slots(self):
        random = seeded(720)
        long = 0
        for _ in range(80):
            body, machine = draw_world(random, limit=4, most_covers=10)
            top = min(4 * len(body.operations), 8)
            costs = second_costs(body, machine, top)
            for interval, cost in enumerate(costs, start=1):
                self.assertEqual(least_cost(body, machine, interval), cost)
            told = frontier(body, machine)
            self.assertEqual(tuple(row for row in told if row[0] <= top), second_frontier(costs))
            self.assertEqual(told[-1][1], cover_cost(body, machine, cheapest(body, machine)))
            self.assertLessEqual(told[-1][0], 4 * len(body.operations))
            long += len(told) > 1
            for most in (None, 0, told[-1][1], told[-1][1] + 1, told[0][1], 99):
                found = [row[0] for row in told if most is None or row[1] <= most]
                self.assertEqual(least_interval(body, machine, most=most), found[0] if found else None)
        self.assertGreater(long, 8)

    def test_papers(self):
        random = seeded(721)
        for _ in range(60):
            body, machine = draw_world(random, limit=8, most_covers=100)
            paper = frontier_paper(body, machine)
            self.assertEqual(tuple(row[:2] for row in paper[1]), frontier(body, machine))
            self.assertIs(is_frontier_paper(body, machine, paper), True)
            self.assertTrue(second_right(body, machine, paper))

    def test_bent_papers(self):
        random = seeded(722)
        told = {True: 0, False: 0}
        while told[False] < 800:
            body, machine = draw_world(random, limit=4)
            paper = frontier_paper(body, machine)
            others = [*body.operations, *machine.names, 0, 1, -1, None, (), "x", ("cost",), ("unit", "u", 0), {}]
            for _ in range(10):
                bent = bent_values(random, paper, others)
                right = "[" not in str(bent) and second_right(body, machine, bent)
                told[right] += 1
                self.assertIs(is_frontier_paper(body, machine, bent), right, bent)
        self.assertGreater(told[True], 10)

    def test_other_names_places_and_orders(self):
        random = seeded(723)
        for _ in range(40):
            body, machine = draw_world(random)
            rows = frontier(body, machine)
            new = {name: f"n{name}"[:8] for name in body.names}
            other = body.renamed(new, arrays={array: "q" + array for array in body.arrays})
            self.assertEqual(frontier(other, machine), rows)
            for array in body.arrays:
                other = other.shifted("q" + array, random.randint(-99, 99)).scaled("q" + array, random.choice((-3, -1, 2)))
            self.assertEqual(frontier(other, machine), rows)
            patterns = list(machine.patterns)
            random.shuffle(patterns)
            mixed = Machine.of(machine.units, tuple(patterns), save=machine.save, reload=machine.reload)
            named = mixed.renamed({name: "z" + name for name in mixed.names})
            self.assertEqual(frontier(other, named), rows)


class EdgesTest(unittest.TestCase):
    def test_no_cover(self):
        machine = CHIP.without_pattern("add")
        self.assertEqual((frontier(DOT, machine), least_cost(DOT, machine, 9)), ((), None))
        self.assertIsNone(least_interval(DOT, machine))
        paper = frontier_paper(DOT, machine)
        self.assertEqual(paper[0], "bar")
        self.assertIs(is_frontier_paper(DOT, machine, paper), True)
        self.assertIs(is_frontier_paper(DOT, machine, ("bar", ("pattern", "sum", ()))), True)
        self.assertIs(is_frontier_paper(DOT, CHIP, ("bar", way_paper(DOT, CHIP, 1)[1])), False)
        self.assertIs(is_frontier_paper(DOT, machine, ("frontier", ())), False)
        self.assertIs(is_frontier_paper(DOT, machine, frontier_paper(DOT, CHIP)), False)
        self.assertIs(is_frontier_paper(DOT, machine, ("bar", ("cost",), ())), False)

    def test_a_frontier_of_one_row(self):
        paper = frontier_paper(DOT, CHIP)
        _, ((interval, cost, cover, starts, bars),) = paper
        self.assertEqual((interval, cost, len(bars)), (2, 4, 2))
        self.assertIs(is_frontier_paper(DOT, CHIP, paper), True)
        self.assertIs(is_frontier_paper(DOT, CHIP, ("frontier", ((2, 4, cover, starts, (bars[0], ("cost",))),))), True)
        for row in (
            (2, 4, cover, starts, bars[:1]),
            (2, 4, cover, starts, (*bars, ("cost",))),
            (2, 4, cover, starts, (("cost",), ("cost",))),
            (2, 5, cover, starts, bars),
            (3, 4, cover, starts, bars),
            (True, 4, cover, starts, bars),
            (0, 4, cover, starts, bars),
            (33, 4, cover, starts, bars),
            (2, 4, cover, starts, list(bars)),
            (2, 4, cover, {**starts, "sum": 0}, bars),
            (2, 4, cover, starts),
        ):
            self.assertIs(is_frontier_paper(DOT, CHIP, ("frontier", (row,))), False)
        self.assertIs(is_frontier_paper(DOT, CHIP, ("frontier", list(paper[1]))), False)
        # A dearer way later on is no row.
        other = {"mul": "mul", "mul.0": "get", "mul.1": "get", "sum": "add"}
        late = (4, 5, other, {"mul": 4, "mul.0": 0, "mul.1": 1, "sum": 7}, (("cost",),) * 2)
        self.assertIs(is_frontier_paper(DOT, CHIP, ("frontier", (*paper[1], late))), False)

    def test_a_last_row_with_the_cost_0(self):
        body = Body(("set", "a", ("op", "f", ("at", "a", 1))))
        machine = Machine.from_lines("pattern slow 3 0 : f ( _ )", "pattern fast 1 2 : f ( _ )", "pattern mid 2 1 : f ( _ )")
        self.assertEqual(frontier(body, machine), ((1, 2), (2, 1), (3, 0)))
        paper = frontier_paper(body, machine)
        self.assertEqual([len(row[4]) for row in paper[1]], [1, 1, 0])
        self.assertIs(is_frontier_paper(body, machine, paper), True)
        rows = paper[1]
        self.assertIs(is_frontier_paper(body, machine, ("frontier", rows[:2])), False)
        self.assertIs(is_frontier_paper(body, machine, ("frontier", (*rows[:2], (*rows[2][:4], (("cost",),))))), False)
        self.assertIs(is_frontier_paper(body, machine, ("frontier", (rows[0], rows[2]))), False)
        gap = ("pattern", "a", (("fast", ("cost",)), ("mid", ("cost",)), ("slow", ("circuit", ("a",)))))
        skipped = ("frontier", (rows[0], (*rows[2][:4], (gap,))))
        self.assertIs(is_frontier_paper(body, machine, skipped), False)
        free = machine.with_cost("fast", 0)
        self.assertEqual(frontier(body, free), ((1, 0),))
        self.assertEqual(frontier_paper(body, free), ("frontier", ((1, 0, {"a": "fast"}, {"a": 0}, ()),)))

    def test_rows_that_do_not_fall(self):
        body = Body(("set", "a", ("op", "h")))
        lines = ["unit u 1", "pattern late 1 4 u 0 u 1 u 2 u 3 : h ( )", "pattern even 1 6 u 0 u 3 : h ( )"]
        machine = Machine.from_lines(*lines, "pattern h 1 7 : h ( )")
        self.assertEqual(frontier(body, machine), ((1, 7), (2, 6), (4, 4)))
        rows = frontier_paper(body, machine)[1]
        self.assertIs(is_frontier_paper(body, machine, ("frontier", rows)), True)
        own = way_paper(body, machine, 3, most=6)
        self.assertEqual(own[0], "bar")
        further = (3, 7, {"a": "h"}, {"a": 0}, (own[1],))
        last = (*rows[2][:4], rows[2][4][-1:])
        self.assertIs(is_frontier_paper(body, machine, ("frontier", (*rows[:2], further, last))), False)
        self.assertIs(is_frontier_paper(body, machine, ("frontier", (*rows[:2], further, rows[2]))), False)
        self.assertIs(is_frontier_paper(body, machine, ("frontier", (*rows[:2], last))), False)

    def test_the_own_bar_of_a_row(self):
        body = Body(("set", "a", ("op", "f", ("at", "a", 1))))
        machine = Machine.from_lines("pattern slow 3 0 : f ( _ )", "pattern fast 1 2 : f ( _ )", "pattern mid 2 1 : f ( _ )")
        first, *rows = frontier_paper(body, machine)[1]
        ring = ("circuit", ("a",))
        for leaf, right in ((ring, True), (("cost",), False)):
            tree = ("pattern", "a", (("fast", ("cost",)), ("mid", leaf), ("slow", ring)))
            bent = ((*first[:4], (tree,)), *rows)
            self.assertIs(is_frontier_paper(body, machine, ("frontier", bent)), right)

    def test_the_least_cost_can_grow_with_the_interval(self):
        body = Body(("set", "a", ("op", "h")))
        machine = Machine.from_lines("unit u 1", "pattern h 1 1 u 0 u 3 : h ( )", "pattern hb 1 7 : h ( )")
        self.assertEqual([least_cost(body, machine, interval) for interval in (1, 2, 3, 4)], [7, 1, 7, 1])
        self.assertEqual(frontier(body, machine), ((1, 7), (2, 1)))
        only = machine.without_pattern("hb")
        self.assertEqual([least_cost(body, only, interval) for interval in (1, 2, 3, 4)], [None, 1, None, 1])
        self.assertEqual((least_interval(body, only), least_interval(body, only, most=0)), (2, None))

    def test_sizes(self):
        machine = Machine.from_lines("unit u 1", "pattern h 1 1 : h ( )", "pattern g 1 1 u 0 : g ( )", "pattern hb 1 2 : h ( )")
        nine = Body(*[("set", name, ("op", "h")) for name in "abcdefghi"])
        many = nine.without("i")
        five = Body(*[("set", name, ("op", "g")) for name in "abcde"])
        for body, limit in ((nine, 8), (many, 200), (five, 4)):
            for call in (frontier, frontier_paper, least_interval):
                self.assertEqual(refused(self, TooMany, call, body, machine).limit, limit)
            self.assertEqual(refused(self, TooMany, least_cost, body, machine, 1).limit, limit)
        cover, starts = {name: "h" for name in nine}, {name: 0 for name in nine}
        self.assertIs(is_frontier_paper(nine, machine, ("frontier", ((1, 9, cover, starts, (("cost",),)),))), True)
        self.assertIs(is_frontier_paper(five, machine, ("frontier", ())), False)
        self.assertEqual(frontier(many, machine.without_pattern("hb")), ((1, 8),))


class WrongArgumentsTest(unittest.TestCase):
    def test_arguments(self):
        for value in odd_values():
            if not isinstance(value, Body):
                refused(self, InvalidBody, least_cost, value, None, 0)
                refused(self, InvalidBody, least_interval, value, None, most=-1)
                for call in (frontier, frontier_paper):
                    refused(self, InvalidBody, call, value, None)
                refused(self, InvalidBody, is_frontier_paper, value, None, None)
            if not isinstance(value, Machine):
                refused(self, InvalidMachine, least_cost, DOT, value, 0)
                refused(self, InvalidMachine, least_interval, DOT, value, most=-1)
                for call in (frontier, frontier_paper):
                    refused(self, InvalidMachine, call, DOT, value)
                refused(self, InvalidMachine, is_frontier_paper, DOT, value, None)
            if type(value) is not int or not 1 <= value <= 32:
                refuses_number(self, value, least_cost, DOT, CHIP, value)
            if value is not None and (type(value) is not int or not 0 <= value < 10**30):
                refuses_number(self, value, least_interval, DOT, CHIP, most=value)
            self.assertIs(is_frontier_paper(DOT, CHIP, value), False)
            self.assertIs(is_frontier_paper(DOT, CHIP, ("frontier", value)), False)
            self.assertIs(is_frontier_paper(DOT, CHIP, ("frontier", (value,))), False)
        self.assertEqual(fitting(PAIRS, CHIP)["put"], ("put",))


if __name__ == "__main__":
    unittest.main()
