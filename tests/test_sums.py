"""Sums of bodies side by side, and opened and joined trees, by the text of the document."""

import unittest

from loopfoundry.covers.covers import fitting
from loopfoundry.errors import InvalidArgument, InvalidBody, InvalidMachine, TooMany
from loopfoundry.jobs.jobs import Job
from loopfoundry.machine.machines import Machine
from loopfoundry.plans.plans import is_plan
from loopfoundry.search.frontier import least_cost
from loopfoundry.search.ways import is_way_paper, way_paper
from loopfoundry.source.bodies import Body
from loopfoundry.worlds.sums import are_side_by_side, joined, opened, together, units_used
from tests.helpers import CHIP, DOT, PAIRS, bent_values, draw_body, odd_values, refused, refuses_number, seeded, unit_machine
from tests.test_worlds import BACK, QUICK, TREE

NAMES = {"a": "na", "ab": "nb", "b": "nc", "c": "nd", "sum": "ne", "put": "nf"}


def other_names(body):
    return body.renamed({name: NAMES[name] for name in body.names})


def draw_sides(random, limit=4):
    """Two bodies side by side, of few nodes."""
    while True:
        one, other = draw_body(random, limit=limit, spread=3), other_names(draw_body(random, limit=limit, spread=3))
        if random.random() < 0.5:
            other = other.renamed({}, arrays={array: "q" + array for array in other.arrays})
        if are_side_by_side(one, other):
            return one, other


def second_turned(tree, by, interval):
    if tree[0] == "unit":
        return ("unit", tree[1], (tree[2] + by) % interval)
    if tree[0] == "pattern":
        return (*tree[:2], tuple((name, second_turned(below, by, interval)) for name, below in tree[2]))
    if tree[0] == "slot":
        rows = [None] * interval
        for slot, below in enumerate(tree[2]):
            rows[(slot + by) % interval] = second_turned(below, by, interval)
        return ("slot", tree[1], tuple(rows))
    return tree


def second_opened(tree, interval):
    if tree[0] == "pattern":
        return (*tree[:2], tuple((name, second_opened(below, interval)) for name, below in tree[2]))
    if tree[0] == "slot":
        rows = tree[2] if len(tree[2]) == interval else [second_turned(tree[2][0], slot, interval) for slot in range(interval)]
        return ("slot", tree[1], tuple(second_opened(below, interval) for below in rows))
    return tree


def second_joined(tree, other, interval, below_slot=False):
    if tree == ("cost",):
        return second_opened(other, interval) if below_slot else other
    if tree[0] == "pattern":
        return (*tree[:2], tuple((name, second_joined(below, other, interval, below_slot)) for name, below in tree[2]))
    if tree[0] == "slot":
        return (*tree[:2], tuple(second_joined(below, other, interval, True) for below in tree[2]))
    return tree


def draw_cases(random, interval, room=4, below_slot=False):
    """A tree of cases that can be opened."""
    kind = random.choice(("cost", "unit", "circuit", "pattern", "pattern", "slot", "slot") if room else ("cost", "unit", "circuit"))
    if kind == "cost":
        return ("cost",)
    if kind == "unit":
        return ("unit", random.choice("pq"), random.randrange(interval))
    if kind == "circuit":
        return ("circuit", tuple(random.choice(("y", "z.0")) for _ in range(random.randint(1, 3))))
    if kind == "pattern":
        names = sorted(random.sample("abcdef", random.randint(0, 3)))
        return ("pattern", "y", tuple((name, draw_cases(random, interval, room - 1, below_slot)) for name in names))
    many = 1 if not below_slot and random.random() < 0.6 else interval
    return ("slot", random.choice(("y", "s")), tuple(draw_cases(random, interval, room - 1, True) for _ in range(many)))


class SumsTest(unittest.TestCase):
    def test_side_by_side(self):
        random, told = seeded(910), {True: 0, False: 0}
        for _ in range(300):
            one, other = draw_body(random, limit=8), draw_body(random, limit=8)
            if random.random() < 0.7:
                other = other_names(other)
            stored = [{row[1] for row in body.stores} for body in (one, other)]
            arrays = [set(body.arrays) for body in (one, other)]
            fine = not set(one.names) & set(other.names) and not stored[0] & arrays[1] and not stored[1] & arrays[0]
            told[fine] += 1
            self.assertIs(are_side_by_side(one, other), fine)
            self.assertIs(are_side_by_side(other, one), fine)
            if fine:
                self.assertEqual(together(one, other).statements, one.statements + other.statements)
                both = together(one, other).run(5, lambda *row: row, lambda *row: row, lambda *row: row)
                rows = [body.run(5, lambda *row: row, lambda *row: row, lambda *row: row) for body in (one, other)]
                self.assertEqual(both, ({**rows[0][0], **rows[1][0]}, {**rows[0][1], **rows[1][1]}))
            else:
                refused(self, InvalidArgument, together, one, other)
        self.assertGreater(min(told.values()), 50)

    def test_what_is_shared(self):
        one = Body(("set", "a", ("op", "f", ("load", "x", 1, 0))))
        shared = {
            "load": Body(("set", "b", ("op", "f", ("load", "x", 1, 0)))),
            "store": Body(("store", "b", "x", 1, 0, ("op", "f"))),
            "name": Body(("store", "a", "y", 1, 0, ("op", "g"))),
            "operator": Body(("store", "f", "y", 1, 0, ("op", "f", ("op", "f")))),
            "array": Body(("set", "x", ("op", "a", ("load", "f", 1, 0)))),
        }
        wanted = {"load": True, "store": False, "name": False, "operator": True, "array": True}
        for word, other in shared.items():
            self.assertIs(are_side_by_side(one, other), wanted[word], word)
            self.assertIs(are_side_by_side(other, one), wanted[word], word)
        self.assertIs(are_side_by_side(one, one), False)

    def test_24_and_25_nodes(self):
        rows = [("set", "a" + letter, ("op", "h")) for letter in "abcdefghijklmnopqrstuvwx"]
        one = Body(*rows[:20])
        self.assertEqual(len(together(one, Body(*rows[20:])).operations), 24)
        refused(self, InvalidArgument, together, one, Body(*rows[20:], ("set", "b", ("op", "h"))))
        self.assertIs(are_side_by_side(one, Body(*rows[20:], ("set", "b", ("op", "h")))), True)

    def test_least_costs_of_sums(self):
        random, equal, more = seeded(911), 0, 0
        while equal < 60 or more < 12:
            one, other = draw_sides(random)
            machine, interval = unit_machine(random, chance=0.5, most=1), random.randint(1, 4)
            try:
                costs = [least_cost(body, machine, interval) for body in (one, other, together(one, other))]
            except TooMany:
                continue
            if None in costs[:2]:
                self.assertIsNone(costs[2])
                continue
            if not set(units_used(one, machine)) & set(units_used(other, machine)):
                self.assertEqual(costs[2], costs[0] + costs[1])
                equal += 1
            else:
                self.assertTrue(costs[2] is None or costs[2] >= costs[0] + costs[1])
                more += costs[2] is None or costs[2] > costs[0] + costs[1]

    def test_ways_of_sums(self):
        random, tried = seeded(912), 0
        while tried < 60:
            one, other = draw_sides(random)
            machine, interval = unit_machine(random, chance=0.2), random.randint(1, 5)
            if set(units_used(one, machine)) & set(units_used(other, machine)):
                continue
            try:
                papers = [way_paper(body, machine, interval) for body in (one, other)]
            except TooMany:
                continue
            if papers[0][0] == papers[1][0] == "way":
                tried += 1
                both = together(one, other)
                cover, starts = [{**papers[0][k], **papers[1][k]} for k in (1, 2)]
                self.assertIs(is_plan(Job(both, machine, cover), interval, starts), True)

    def test_units(self):
        random = seeded(913)
        for _ in range(80):
            body, machine = draw_body(random), unit_machine(random)
            fit = {name for names in fitting(body, machine).values() for name in names}
            units = {use[0] for name in fit for use in machine.pattern(name)[4]}
            self.assertEqual(units_used(body, machine), tuple(sorted(units)))
        self.assertEqual(units_used(DOT, CHIP), ("alu", "mem"))
        self.assertEqual(units_used(BACK.without("y", "s"), QUICK), ())


class JoinedTreesTest(unittest.TestCase):
    def test_drawn_trees(self):
        random, kinds = seeded(914), {"opened": 0, "replaced": 0}
        for _ in range(600):
            interval = random.randint(1, 4)
            one, other = draw_cases(random, interval), draw_cases(random, interval)
            self.assertEqual(opened(interval, one), second_opened(one, interval))
            both = joined(interval, one, other)
            self.assertEqual(both, second_joined(one, other, interval))
            kinds["opened"] += opened(interval, one) != one
            kinds["replaced"] += both != one
        self.assertGreater(min(kinds.values()), 80)

    def test_joined_bars_bar_the_sum(self):
        random, made, slots = seeded(915), 0, 0
        while made < 150:
            one, other = draw_sides(random)
            machine, interval = unit_machine(random, chance=0.6, most=1), random.randint(1, 4)
            try:
                costs = [least_cost(body, machine, interval) for body in (one, other)]
                lists = [[None, 9] if cost is None else range(max(0, cost - 3), cost) for cost in costs]
                if not lists[0] or not lists[1]:
                    continue
                bounds = [random.choice(rows) for rows in lists]
                papers = [way_paper(body, machine, interval, most=most) for body, most in zip((one, other), bounds)]
            except TooMany:
                continue
            self.assertEqual([paper[0] for paper in papers], ["bar", "bar"])
            most = None if None in bounds else sum(bounds) + 1
            if bounds.count(None) == 1:
                continue
            try:
                tree = joined(interval, papers[0][1], papers[1][1])
            except InvalidArgument:
                self.fail("the trees of the program can be joined")
            made += 1
            slots += "'slot'" in str(tree)
            self.assertIs(is_way_paper(together(one, other), machine, interval, ("bar", tree), most=most), True)
        self.assertGreater(slots, 10)

    def test_the_examples(self):
        self.assertEqual(opened(2, TREE)[2][0][1], ("slot", "y", (("unit", "p", 1), ("unit", "p", 0))))
        self.assertEqual(joined(2, ("cost",), ("cost",)), ("cost",))
        self.assertEqual([are_side_by_side(BACK, DOT), are_side_by_side(DOT, PAIRS)], [False, True])
        self.assertEqual((together(DOT, PAIRS).names, units_used(BACK, QUICK)), (("mul", "sum", "put"), ("p",)))

    def test_slots_below_slots(self):
        unit, cost = ("unit", "p", 1), ("cost",)
        inner = ("slot", "z", (unit, cost))
        one = ("slot", "y", (inner,))
        turned = ("slot", "z", (cost, ("unit", "p", 0)))
        self.assertEqual(opened(2, one), ("slot", "y", (inner, turned)))
        self.assertEqual(opened(2, opened(2, one)), opened(2, one))
        self.assertEqual(joined(2, one, ("slot", "w", (unit,))), ("slot", "y", (("slot", "z", (unit, ("slot", "w", (unit, ("unit", "p", 0))))),)))
        self.assertEqual(joined(2, ("pattern", "y", (("f", cost),)), one), ("pattern", "y", (("f", one),)))
        for tree in (("slot", "y", (one, one)), ("slot", "y", (("pattern", "z", (("f", one),)),)), ("slot", "y", (cost, one))):
            refused(self, InvalidArgument, opened, 2, tree)
            refused(self, InvalidArgument, joined, 2, tree, cost)
            refused(self, InvalidArgument, joined, 2, cost, tree)
        deep = ("slot", "y", (("slot", "z", (("slot", "w", (("unit", "p", 0),)),)),))
        self.assertEqual((opened(1, deep), joined(1, deep, cost)), (deep, deep))
        refused(self, InvalidArgument, opened, 2, deep)
        beside = ("pattern", "y", (("f", one), ("g", one)))
        self.assertEqual(opened(2, beside)[2][1][1], opened(2, one))

    def test_long_ways_down(self):
        tree = ("cost",)
        for k in range(49):
            tree = ("pattern", "y", (("f", tree),))
        self.assertEqual(opened(3, tree), tree)
        both = joined(3, tree, tree)
        many = 0
        while both != ("cost",):
            both, many = both[2][0][1], many + 1
        self.assertEqual(many, 98)
        refused(self, InvalidArgument, opened, 3, ("pattern", "y", (("f", tree),)))
        refused(self, InvalidArgument, joined, 3, ("cost",), ("pattern", "y", (("f", tree),)))

    def test_great_intervals(self):
        one = ("slot", "y", (("unit", "p", 31),))
        self.assertEqual(opened(32, one)[2], tuple(("unit", "p", (31 + k) % 32) for k in range(32)))
        refused(self, InvalidArgument, opened, 31, one)
        self.assertEqual(opened(1, ("slot", "y", (("unit", "p", 0),))), ("slot", "y", (("unit", "p", 0),)))


class WrongArgumentsTest(unittest.TestCase):
    def test_arguments(self):
        for value in odd_values():
            if not isinstance(value, Body):
                refused(self, InvalidBody, are_side_by_side, value, None)
                self.assertIs(are_side_by_side(DOT, value), False)
                refused(self, InvalidBody, together, value, None)
                refused(self, InvalidBody, together, DOT, value)
                refused(self, InvalidBody, units_used, value, None)
            if not isinstance(value, Machine):
                refused(self, InvalidMachine, units_used, DOT, value)
            if type(value) is not int or not 1 <= value <= 32:
                refuses_number(self, value, opened, value, None)
                refuses_number(self, value, joined, value, None, None)
            refused(self, InvalidArgument, opened, 2, value)
            refused(self, InvalidArgument, joined, 2, value, None)
            refused(self, InvalidArgument, joined, 2, ("cost",), value)
        refused(self, InvalidArgument, together, DOT, DOT)
        self.assertEqual(DOT.names, ("mul", "sum"))

    def test_bent_trees(self):
        random, told = seeded(916), {True: 0, False: 0}
        from loopfoundry.worlds.order import trimmed

        body = Body(("set", "y", ("op", "f")), ("set", "z", ("op", "f", ("op", "g"))))
        for _ in range(1500):
            tree = draw_cases(random, 2)
            bent = bent_values(random, tree, ["y", "s", "p", 0, 1, 2, None, ("cost",), (), True])

            def right(value):
                try:
                    trimmed(body, QUICK, 2, value)
                except InvalidArgument:
                    return False
                return not below(value, False)

            def below(value, under):
                """Whether a "slot" node with one tree alone stands below another one."""
                if value[0] == "slot":
                    return (under and len(value[2]) == 1) or any(below(part, True) for part in value[2])
                return value[0] == "pattern" and any(below(part, under) for _, part in value[2])

            if "'pattern', 's'" in str(bent) or "'pattern', 'p'" in str(bent):
                continue
            fine = right(bent)
            told[fine] += 1
            for call in (lambda: opened(2, bent), lambda: joined(2, bent, ("cost",)), lambda: joined(2, ("cost",), bent)):
                if fine:
                    call()
                else:
                    refused(self, InvalidArgument, call)
        self.assertGreater(min(told.values()), 150)


if __name__ == "__main__":
    unittest.main()
