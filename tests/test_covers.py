"""Covers, beginnings, tables and papers, held against all covers of small bodies."""

import unittest
from itertools import product

from loopfoundry.covers.covers import (
    cheapest,
    cost_paper,
    cover_cost,
    cover_paper,
    cover_row,
    fitting,
    is_beginning,
    is_cost_paper,
    is_cover,
    is_cover_paper,
    is_table,
    least_table,
    open_cost,
    open_count,
    open_nodes,
    wants,
)
from loopfoundry.covers.orders import (
    behind,
    count_covers,
    cover_at,
    cover_by_cost,
    covers_by_cost,
    each_cover,
    hurried,
    margin,
    number_of,
    pattern_margin,
)
from loopfoundry.errors import InvalidArgument, InvalidBody, InvalidCover, InvalidMachine
from loopfoundry.machine.machines import Machine
from loopfoundry.machine.shapes import fits, holes
from loopfoundry.source.bodies import Body
from tests.helpers import (
    CHIP,
    DOT,
    PAIRS,
    ascending,
    draw_body,
    draw_machine,
    full_machine,
    odd_values,
    refused,
    refuses_name,
    refuses_number,
    seeded,
)


class World:
    """A body and a machine, with all that can be told by the words of the document."""

    def __init__(self, body, machine):
        self.body, self.machine = body, machine
        self.nodes = body.operations
        self.costs = {row[0]: row[3] for row in machine.patterns}
        self.index = {row[0]: k for k, row in enumerate(machine.patterns)}
        self.fit, self.wants = {}, {}
        for node in self.nodes:
            found = [row for row in machine.patterns if fits(row[1], body.tree(node))]
            self.fit[node] = tuple(row[0] for row in found)
            for row in found:
                below = [".".join([node, *map(str, hole)]) for hole in holes(row[1])]
                self.wants[node, row[0]] = tuple(text for text in below if text in self.nodes)

    def has_entries(self, value):
        return all(node in self.nodes and name in self.fit[node] for node, name in value.items())

    def wanted(self, value):
        found = set(self.body.names)
        for node, name in value.items():
            found.update(self.wants[node, name])
        return found

    def is_beginning(self, value):
        return self.has_entries(value) and set(value) <= self.wanted(value)

    def is_cover(self, value):
        return self.has_entries(value) and set(value) == self.wanted(value)

    def all_rows(self):
        """All dicts from some working nodes to patterns that fit there."""
        choices = [(None, *self.fit[node]) for node in self.nodes]
        for picks in product(*choices):
            yield {node: name for node, name in zip(self.nodes, picks) if name is not None}

    def row(self, cover):
        return tuple(self.index[cover[node]] for node in sorted(cover))

    def cost(self, cover):
        return sum(self.costs[name] for name in cover.values())

    def find(self):
        rows = list(self.all_rows())
        self.beginnings = [row for row in rows if self.is_beginning(row)]
        self.covers = sorted((row for row in rows if self.is_cover(row)), key=self.row)
        return self

    def is_table(self, table):
        for node in self.nodes:
            for name in self.fit[node]:
                below = self.wants[node, name]
                if node in table:
                    if all(want in table for want in below):
                        if table[node] > self.costs[name] + sum(table[want] for want in below):
                            return False
                elif all(want in table for want in below):
                    return False
        return all(node in self.nodes and type(cost) is int and cost >= 0 for node, cost in table.items())

    def least_table(self):
        table, before = {}, None
        while before != table:
            before = dict(table)
            for node in self.nodes:
                found = []
                for name in self.fit[node]:
                    below = self.wants[node, name]
                    if all(want in table for want in below):
                        found.append(self.costs[name] + sum(table[want] for want in below))
                if found:
                    table[node] = min(found)
        return table

    def hurried(self, careful):
        known = self.least_table() if careful else self.nodes
        cover, stuck, found = {}, [], set(self.body.names)
        while found:
            node = found.pop()
            names = [name for name in self.fit[node] if all(want in known for want in self.wants[node, name])]
            if names:
                cover[node] = names[0]
                found.update(self.wants[node, names[0]])
            else:
                stuck.append(node)
        return ("stuck", sorted(stuck)[0]) if stuck else ("cover", cover)


def cut(random, tree, room):
    """A shape of at most so many working nodes that fits a tree, and how many it has."""
    if room == 0 or tree[0] == "at" or random.random() < 0.25:
        return ("hole",), 0
    if tree[0] == "load":
        return ("load",), 1
    parts, total = [], 1
    for below in tree[2:]:
        part, many = cut(random, below, room - total)
        parts.append(part)
        total += many
    return (*tree[:2], *parts), total


def drawn_machine(random, body):
    """A machine of any kind; mostly with patterns that fit in the body."""
    kind = random.random()
    if kind < 0.15:
        return draw_machine(random, random.randint(0, 8))
    if kind < 0.3:
        return full_machine(random)
    shapes = []
    for _ in range(40):
        node = body.tree(random.choice(body.operations))
        tree = node[5] if node[0] == "store" else node
        shape = cut(random, tree, 3)[0]
        if node[0] == "store" and random.random() < 0.8:
            shape = ("store", shape)
        if shape != ("hole",) and (shape not in shapes or random.random() < 0.05):
            shapes.append(shape)
    rows = [(name, shape, 1, random.randint(0, 4), ()) for name, shape in zip("abcdefgh", shapes)]
    return Machine({}, *rows[: random.randint(4, 8)])


def worlds(number, many, limit=6):
    """Small worlds, most of them with covers."""
    random = seeded(number)
    while many:
        body = draw_body(random, most=3, levels=3, limit=limit)
        machine = drawn_machine(random, body)
        size = 1
        for node in body.operations:
            size *= 1 + sum(fits(row[1], body.tree(node)) for row in machine.patterns)
        if size <= 2500:
            many -= 1
            yield random, World(body, machine).find()


class SmallWorldsTest(unittest.TestCase):
    def test_covers(self):
        bare = many = 0
        for random, world in worlds(50, 200):
            body, machine = world.body, world.machine
            self.assertEqual(fitting(body, machine), world.fit)
            self.assertTrue(ascending(fitting(body, machine)))
            for (node, name), below in world.wants.items():
                self.assertEqual(wants(body, machine, node, name), below)
                self.assertTrue(ascending(below))
            for value in world.all_rows():
                self.assertIs(is_cover(body, machine, value), world.is_cover(value))
                self.assertIs(is_beginning(body, machine, value), world.is_beginning(value))
            for cover in world.covers:
                self.assertEqual(cover_cost(body, machine, cover), world.cost(cover))
                self.assertEqual(cover_row(body, machine, cover), world.row(cover))
            bare += not world.covers
            many += len(world.covers) > 3
        self.assertGreater(bare, 15)
        self.assertGreater(many, 15)

    def test_the_order(self):
        for random, world in worlds(51, 120):
            body, machine, covers = world.body, world.machine, world.covers
            self.assertEqual(count_covers(body, machine), len(covers))
            told = list(each_cover(body, machine))
            self.assertEqual(told, covers)
            rows = [world.row(cover) for cover in covers]
            self.assertEqual(len(set(rows)), len(rows))
            for row, other in zip(rows, rows[1:]):
                self.assertNotEqual(row, other[: len(row)])
            for number, cover in enumerate(covers):
                self.assertEqual(cover_at(body, machine, number), cover)
                self.assertEqual(number_of(body, machine, cover), number)
                self.assertTrue(ascending(told[number]) and ascending(cover_at(body, machine, number)))
            refuses_number(self, len(covers), cover_at, body, machine, len(covers))

    def test_by_cost(self):
        for random, world in worlds(52, 120):
            body, machine = world.body, world.machine
            by_cost = {}
            for cover in world.covers:
                by_cost.setdefault(world.cost(cover), []).append(cover)
            told = covers_by_cost(body, machine)
            self.assertEqual(told, {cost: len(covers) for cost, covers in by_cost.items()})
            self.assertTrue(ascending(told))
            for cost in range(max(by_cost, default=0) + 3):
                covers = by_cost.get(cost, [])
                for number, cover in enumerate(covers):
                    self.assertEqual(cover_by_cost(body, machine, cost, number), cover)
                    self.assertTrue(ascending(cover_by_cost(body, machine, cost, number)))
                refuses_number(self, len(covers), cover_by_cost, body, machine, cost, len(covers))

    def test_beginnings(self):
        for random, world in worlds(53, 80, limit=5):
            body, machine = world.body, world.machine
            for value in world.beginnings:
                left = tuple(sorted(world.wanted(value) - set(value)))
                self.assertEqual(open_nodes(body, machine, value), left)
                going = [cover for cover in world.covers if value.items() <= cover.items()]
                self.assertEqual(open_count(body, machine, value), len(going))
                least = min([world.cost(cover) for cover in going], default=None)
                self.assertEqual(open_cost(body, machine, value), least)
            for value in world.all_rows():
                if not world.is_beginning(value):
                    refused(self, InvalidCover, open_nodes, body, machine, value)
                    refused(self, InvalidCover, open_count, body, machine, value)
                    refused(self, InvalidCover, open_cost, body, machine, value)
                    refused(self, InvalidCover, cover_cost, body, machine, value)
                    refused(self, InvalidCover, number_of, body, machine, value)

    def test_bent_covers(self):
        refusals = 0
        for random, world in worlds(54, 80):
            body, machine = world.body, world.machine
            for cover in world.covers[:6]:
                bent = []
                for node in cover:
                    bent.append({at: name for at, name in cover.items() if at != node})
                    bent += [{**cover, node: name} for name in [*machine.names, "zz", None, 0, ["get"]]]
                bent += [{**cover, node: name} for node in world.nodes for name in world.fit[node]]
                bent += [{**cover, node: "p"} for node in ("zz", None, 0, ("a",), "a.0.0.0.0.0")]
                for value in bent:
                    is_right = value in world.covers
                    refusals += not is_right
                    self.assertIs(is_cover(body, machine, value), is_right)
                    if not is_right:
                        refused(self, InvalidCover, cover_row, body, machine, value)
        self.assertGreater(refusals, 1000)

    def test_tables(self):
        found = []
        for random, world in worlds(55, 120):
            body, machine = world.body, world.machine
            least = least_table(body, machine)
            self.assertEqual(least, world.least_table())
            self.assertTrue(ascending(least))
            self.assertIs(is_table(body, machine, least), True)
            for _ in range(60):
                table = dict(least)
                for _ in range(random.randint(1, 3)):
                    node = random.choice(world.nodes)
                    if random.random() < 0.4:
                        table.pop(node, None)
                    else:
                        table[node] = max(0, table.get(node, 0) + random.randint(-3, 2))
                found.append(world.is_table(table))
                self.assertIs(is_table(body, machine, table), found[-1])
                if not found[-1]:
                    continue
                # What a table tells holds for all covers [5.4].
                for cover in world.covers:
                    self.assertTrue(set(cover) <= set(table))
                for value in world.beginnings[:10]:
                    left = world.wanted(value) - set(value)
                    going = [world.cost(cover) for cover in world.covers if value.items() <= cover.items()]
                    if going:
                        self.assertLessEqual(world.cost(value) + sum(table[node] for node in left), min(going))
        self.assertGreater(min(found.count(True), found.count(False)), 500)

    def test_papers(self):
        forms = {}
        for random, world in worlds(56, 120):
            body, machine, covers = world.body, world.machine, world.covers
            least = min([world.cost(cover) for cover in covers], default=None)
            best = cheapest(body, machine)
            self.assertEqual(best is None, not covers)
            if covers:
                self.assertIn(best, covers)
                self.assertEqual(world.cost(best), least)
                self.assertTrue(ascending(best))
            paper = cover_paper(body, machine)
            self.assertEqual(paper[0], "covered" if covers else "bare")
            self.assertIs(is_cover_paper(body, machine, paper), True)
            tables = [least_table(body, machine), {}]
            for _ in range(8):
                table = dict(tables[0])
                for node in world.nodes:
                    if random.random() < 0.3:
                        table[node] = random.randint(0, 6)
                tables.append(table)
            for table in tables:
                is_right = world.is_table(table)
                sums = [table.get(root) for root in body.names]
                bound = None if None in sums else sum(sums)
                self.assertIs(is_cover_paper(body, machine, ("bare", table)), is_right and bound is None)
                for cover in covers[:8]:
                    told = is_cover_paper(body, machine, ("covered", cover, table))
                    self.assertIs(told, is_right and world.cost(cover) == bound)
                for cost in range(0, 12, 3):
                    told = is_cost_paper(body, machine, cost, ("beyond", table))
                    self.assertIs(told, is_right and (bound is None or bound > cost))
            for cost in range(0, 14):
                paper = cost_paper(body, machine, cost)
                self.assertEqual(paper[0], "within" if covers and least <= cost else "beyond")
                self.assertIs(is_cost_paper(body, machine, cost, paper), True)
                forms[paper[0]] = forms.get(paper[0], 0) + 1
                for cover in covers[:8]:
                    told = is_cost_paper(body, machine, cost, ("within", cover))
                    self.assertIs(told, world.cost(cover) <= cost)
        self.assertGreater(min(forms.values()), 100)

    def test_margins(self):
        for random, world in worlds(57, 120):
            body, machine, covers = world.body, world.machine, world.covers
            least = min([world.cost(cover) for cover in covers], default=None)
            lows = {name: [] for name in machine.names}
            for node in world.nodes:
                for name in machine.names:
                    costs = [world.cost(cover) for cover in covers if cover.get(node) == name]
                    wanted = min(costs) - least if costs else None
                    self.assertEqual(margin(body, machine, node, name), wanted)
                    lows[name] += [wanted] if costs else []
                # A node is an operation of some cover exactly if some pattern has a margin there [5.5].
                told = any(margin(body, machine, node, name) is not None for name in machine.names)
                self.assertEqual(told, any(node in cover for cover in covers))
            for name in machine.names:
                self.assertEqual(pattern_margin(body, machine, name), min(lows[name], default=None))

    def test_falling_costs(self):
        for random, world in worlds(58, 60):
            body, machine = world.body, world.machine
            for name in machine.names:
                cost, more = world.costs[name], pattern_margin(body, machine, name)
                if more is not None and cost >= more:
                    other = machine.with_cost(name, cost - more)
                    self.assertEqual(pattern_margin(body, other, name), 0)
                if more is not None and cost > more:
                    other = World(body, machine.with_cost(name, cost - more - 1)).find()
                    low = min(other.cost(cover) for cover in other.covers)
                    for cover in other.covers:
                        self.assertTrue(other.cost(cover) > low or name in cover.values())

    def test_hurried(self):
        kinds = {}
        for random, world in worlds(59, 400):
            body, machine, covers = world.body, world.machine, world.covers
            for careful in (False, True):
                told = hurried(body, machine, careful=careful)
                self.assertEqual(told, world.hurried(careful))
                kinds[told[0], careful, bool(covers)] = 1 + kinds.get((told[0], careful, bool(covers)), 0)
                more = behind(body, machine, careful=careful)
                if told[0] == "stuck":
                    self.assertIsNone(more)
                    self.assertTrue(not careful or told[1] in body.names and not covers)
                else:
                    self.assertIn(told[1], covers)
                    self.assertTrue(ascending(told[1]))
                    self.assertEqual(more, world.cost(told[1]) - min(world.cost(cover) for cover in covers))
            self.assertEqual(hurried(body, machine), hurried(body, machine, careful=False))
            self.assertEqual(behind(body, machine), behind(body, machine, careful=False))
            if told[0] == "cover" and len(machine) < 8:
                # A further pattern behind all others changes no hurried cover without care [5.6].
                further = machine.with_pattern(("further", ("load",), 1, 0, ()))
                first = hurried(body, machine)
                self.assertTrue(first[0] == "stuck" or hurried(body, further) == first)
        self.assertGreater(kinds["stuck", False, True], 0)

    def test_what_changes_nothing(self):
        for random, world in worlds(60, 60):
            body, machine = world.body, world.machine
            names = dict(zip(machine.names, random.sample(["a", "b", "c", "d", "e", "f", "g", "h"], len(machine))))
            other = machine.renamed(names)
            arrays = {"x": "q", "y": "x"}
            moved = body.renamed({}, arrays={name: arrays[name] for name in body.arrays})
            for name in moved.arrays:
                moved = moved.shifted(name, 5).scaled(name, 3)
            rows = [cover_row(body, machine, cover) for cover in each_cover(body, machine)]
            self.assertEqual([cover_row(moved, other, cover) for cover in each_cover(moved, other)], rows)
            self.assertEqual(covers_by_cost(moved, other), covers_by_cost(body, machine))
            self.assertEqual(count_covers(moved, other), count_covers(body, machine))
            triple = machine
            for row in machine.patterns:
                triple = triple.with_cost(row[0], 3 * row[3])
            for name in machine.names:
                more = pattern_margin(body, machine, name)
                self.assertEqual(pattern_margin(body, triple, name), None if more is None else 3 * more)
            more = behind(body, machine)
            self.assertEqual(behind(body, triple), None if more is None else 3 * more)


def wide_world(statements, patterns, levels=1):
    """A body with 24 loads or chains, and a machine with equal patterns for each node."""
    tree = ("load", "x", 1, 0)
    for _ in range(levels - 1):
        tree = ("op", "f", tree)
    rows = [("set", "abcdefghijklmnopqrstuvwx"[k], tree) for k in range(statements)]
    names = "pqrstuvw"[:patterns]
    return Body(*rows), Machine({}, *[(name, ("load",), 1, k, ()) for k, name in enumerate(names)])


class WideWorldsTest(unittest.TestCase):
    def test_as_many_as_there_can_be(self):
        body, machine = wide_world(24, 8)
        many = 8**24
        self.assertEqual(count_covers(body, machine), many)
        self.assertEqual(cover_at(body, machine, 0), dict.fromkeys(body.operations, "p"))
        self.assertEqual(cover_at(body, machine, many - 1), dict.fromkeys(body.operations, "w"))
        refuses_number(self, many, cover_at, body, machine, many)
        number = sum(digit * 8 ** (23 - k) for k, digit in enumerate([1, 7, 0, 3] * 6))
        cover = cover_at(body, machine, number)
        self.assertEqual(cover_row(body, machine, cover), (1, 7, 0, 3) * 6)
        self.assertEqual(number_of(body, machine, cover), number)
        by_cost = covers_by_cost(body, machine)
        self.assertEqual((sum(by_cost.values()), list(by_cost)), (many, list(range(169))))
        self.assertEqual((by_cost[0], by_cost[1], by_cost[2]), (1, 24, 24 + 24 * 23 // 2))
        self.assertEqual(cover_row(body, machine, cover_by_cost(body, machine, 1, 3)), (0,) * 20 + (1, 0, 0, 0))
        self.assertEqual(cover_row(body, machine, cover_by_cost(body, machine, 84, 0)), (0,) * 12 + (7,) * 12)
        refuses_number(self, by_cost[84], cover_by_cost, body, machine, 84, by_cost[84])
        last = cover_by_cost(body, machine, 84, by_cost[84] - 1)
        self.assertEqual(cover_row(body, machine, last), (7,) * 12 + (0,) * 12)
        self.assertEqual([margin(body, machine, "c", name) for name in machine.names], list(range(8)))
        self.assertEqual(open_count(body, machine, {"a": "q", "x": "p"}), 8**22)
        self.assertEqual(open_cost(body, machine, {"a": "q", "x": "w"}), 8)
        self.assertEqual(next(iter(each_cover(body, machine))), cover_at(body, machine, 0))
        self.assertEqual(behind(body, machine.moved("w", 0)), 168)
        self.assertIs(is_cover_paper(body, machine, cover_paper(body, machine)), True)

    def test_each_is_made_when_it_is_asked_for(self):
        body, machine = wide_world(24, 8)
        told = each_cover(body, machine)
        rows = [cover_row(body, machine, next(told)) for _ in range(20)]
        self.assertEqual(rows, [(0,) * 22 + (k // 8, k % 8) for k in range(20)])

    def test_chains(self):
        # Trees of four levels, covered one by one or two nodes at once.
        body, _ = wide_world(6, 0, levels=4)
        machine = Machine(
            {},
            ("one", ("op", "f", ("hole",)), 1, 5, ()),
            ("two", ("op", "f", ("op", "f", ("hole",))), 1, 8, ()),
            ("get", ("load",), 1, 1, ()),
            ("getf", ("op", "f", ("load",)), 1, 3, ()),
        )
        # f f f load: 1-1-1-get, 1-1-getf, 1-2-get, 2-1-get, 2-getf.
        self.assertEqual(count_covers(body, machine), 5**6)
        self.assertEqual(covers_by_cost(Body(body["a"]), machine), {11: 1, 13: 1, 14: 2, 16: 1})
        self.assertEqual(cheapest(body, machine)["a"], "two")
        self.assertEqual(least_table(body, machine)["a.0"], 8)
        self.assertEqual(margin(body, machine, "c.0", "two"), 3)
        self.assertIsNone(margin(body, machine, "c.0.0", "two"))
        told = list(covers_by_cost(body, machine))
        self.assertEqual((told[0], told[-1]), (66, 96))


class EdgesTest(unittest.TestCase):
    def test_without_patterns(self):
        empty = Machine({})
        self.assertEqual(fitting(DOT, empty), {"mul": (), "mul.0": (), "mul.1": (), "sum": ()})
        self.assertEqual((count_covers(DOT, empty), list(each_cover(DOT, empty))), (0, []))
        self.assertEqual((covers_by_cost(DOT, empty), least_table(DOT, empty)), ({}, {}))
        self.assertEqual((cheapest(DOT, empty), cover_paper(DOT, empty)), (None, ("bare", {})))
        self.assertEqual(cost_paper(DOT, empty, 10**29), ("beyond", {}))
        self.assertIs(is_table(DOT, empty, {"mul": 10**30 - 1}), True)
        self.assertIs(is_table(DOT, empty, {"mul": 10**30}), False)
        self.assertEqual(open_nodes(DOT, empty, {}), ("mul", "sum"))
        self.assertEqual((open_count(DOT, empty, {}), open_cost(DOT, empty, {})), (0, None))
        self.assertEqual(hurried(DOT, empty), ("stuck", "mul"))
        self.assertEqual(hurried(DOT, empty, careful=True), ("stuck", "mul"))
        self.assertIsNone(behind(DOT, empty))
        refuses_number(self, 0, cover_at, DOT, empty, 0)
        refuses_number(self, 0, cover_by_cost, DOT, empty, 0, 0)

    def test_no_cover_but_covered_roots(self):
        # One root can be covered, the other one not.
        machine = CHIP.without_pattern("add")
        self.assertEqual(count_covers(DOT, machine), 0)
        self.assertEqual(least_table(DOT, machine), {"mul": 3, "mul.0": 1, "mul.1": 1})
        self.assertEqual(cover_paper(DOT, machine)[0], "bare")
        self.assertIsNone(margin(DOT, machine, "mul", "mul"))
        self.assertIsNone(pattern_margin(DOT, machine, "get"))
        self.assertIsNone(behind(DOT, machine))
        # A table may have a node that no cover has: its integer is free then.
        self.assertIs(is_table(DOT, machine, {"mul": 3, "mul.0": 1, "mul.1": 1, "sum": 99}), True)
        self.assertIs(is_cover_paper(DOT, machine, ("bare", {"mul": 3, "mul.0": 1, "mul.1": 1, "sum": 99})), False)
        self.assertIs(is_cost_paper(DOT, machine, 100, ("beyond", {"mul": 3, "mul.0": 1, "mul.1": 1, "sum": 99})), True)

    def test_the_stuck_node_is_the_first_of_all(self):
        body = Body(
            ("set", "a", ("op", "f", ("op", "g", ("op", "h"), ("op", "h")))),
            ("set", "b", ("op", "k")),
        )
        machine = Machine.from_lines("pattern f 1 0 : f ( _ )", "pattern g 1 0 : g ( _ _ )", "pattern fg 1 0 : f ( g ( _ _ ) )")
        self.assertEqual(hurried(body, machine), ("stuck", "a.0.0"))
        self.assertEqual(hurried(body, machine, careful=True), ("stuck", "a"))
        self.assertEqual(hurried(body, machine.with_pattern(("h", ("op", "h"), 1, 0, ()))), ("stuck", "b"))

    def test_care_can_change_with_a_further_pattern(self):
        body = Body(("set", "a", ("op", "f", ("op", "g"))))
        machine = Machine.from_lines("pattern f 1 9 : f ( _ )", "pattern fg 1 1 : f ( g ( ) )")
        self.assertEqual(hurried(body, machine), ("stuck", "a.0"))
        self.assertEqual(hurried(body, machine, careful=True), ("cover", {"a": "fg"}))
        more = machine.with_pattern(("g", ("op", "g"), 1, 9, ()))
        self.assertEqual(hurried(body, more, careful=True), ("cover", {"a": "f", "a.0": "g"}))
        self.assertEqual((behind(body, more, careful=True), behind(body, machine, careful=True)), (17, 0))

    def test_equal_shapes_under_two_names(self):
        machine = CHIP.with_pattern(("load", ("load",), 1, 1, ()))
        self.assertEqual(fitting(DOT, machine)["mul.0"], ("get", "load"))
        self.assertEqual(count_covers(DOT, machine), 6)
        self.assertEqual(cover_paper(DOT, machine)[2]["mul"], 3)

    def test_a_store_of_a_scalar(self):
        body = Body(("set", "n", ("op", "f", ("at", "n", 1))), ("store", "s", "x", 1, 0, ("at", "n", 0)))
        self.assertEqual(wants(body, CHIP, "s", "put"), ())
        self.assertEqual(list(each_cover(body, CHIP)), [{"n": "f", "s": "put"}])
        self.assertEqual(open_nodes(body, CHIP, {"s": "put"}), ("n",))

    def test_operations_stand_in_the_order_of_their_texts(self):
        body = Body(("set", "ab", ("load", "x", 1, 0)), ("set", "a", ("op", "f", ("load", "x", 1, 0))))
        cover = {"a": "f", "a.0": "get", "ab": "get"}
        self.assertEqual(list(cover_at(body, CHIP, 0)), ["a", "a.0", "ab"])
        self.assertEqual(cover_row(body, CHIP, cover), (4, 3, 3))
        self.assertEqual(cover_row(body, CHIP, dict(reversed(cover.items()))), (4, 3, 3))

    def test_costs_from_0_to_20(self):
        free = CHIP
        for name in CHIP.names:
            free = free.with_cost(name, 0)
        self.assertEqual(covers_by_cost(DOT, free), {0: 2})
        self.assertEqual(cost_paper(DOT, free, 0)[0], "within")
        dear = CHIP
        for name in CHIP.names:
            dear = dear.with_cost(name, 20)
        self.assertEqual(covers_by_cost(DOT, dear), {60: 1, 80: 1})


class WrongArgumentsTest(unittest.TestCase):
    def calls(self):
        """All functions, with good arguments behind the body and the machine."""
        cover = cheapest(DOT, CHIP)
        return [
            (fitting, ()),
            (wants, ("mul", "mul")),
            (is_cover, (cover,)),
            (cover_cost, (cover,)),
            (cover_row, (cover,)),
            (count_covers, ()),
            (lambda body, machine: next(each_cover(body, machine)), ()),
            (cover_at, (0,)),
            (number_of, (cover,)),
            (covers_by_cost, ()),
            (cover_by_cost, (4, 0)),
            (is_beginning, ({},)),
            (open_nodes, ({},)),
            (open_count, ({},)),
            (open_cost, ({},)),
            (is_table, ({},)),
            (least_table, ()),
            (cheapest, ()),
            (cover_paper, ()),
            (is_cover_paper, ((),)),
            (cost_paper, (3,)),
            (is_cost_paper, (3, ())),
            (margin, ("mul", "mul")),
            (pattern_margin, ("mul",)),
            (hurried, ()),
            (behind, ()),
        ]

    def test_bodies_and_machines(self):
        for call, rest in self.calls():
            call(DOT, CHIP, *rest)
            for value in odd_values():
                if not isinstance(value, Body):
                    refused(self, InvalidBody, call, value, CHIP, *rest)
                    refused(self, InvalidBody, call, value, value, *[None] * len(rest))
                if not isinstance(value, Machine):
                    refused(self, InvalidMachine, call, DOT, value, *rest)
                    refused(self, InvalidMachine, call, DOT, value, *[None] * len(rest))

    def test_a_generator_raises_when_it_is_asked(self):
        told = each_cover(None, None)
        refused(self, InvalidBody, next, told)

    def test_covers_and_beginnings(self):
        for value in odd_values():
            for call in (cover_cost, cover_row, number_of):
                refused(self, InvalidCover, call, DOT, CHIP, value)
            if value != {}:
                for call in (open_nodes, open_count, open_cost):
                    refused(self, InvalidCover, call, DOT, CHIP, value)
            self.assertIs(is_cover(DOT, CHIP, value), False)
            self.assertIs(is_beginning(DOT, CHIP, value), value == {})
            self.assertIs(is_table(DOT, CHIP, value), False)
            self.assertIs(is_cover_paper(DOT, CHIP, value), False)
            self.assertIs(is_cost_paper(DOT, CHIP, 3, value), False)
            self.assertIs(is_beginning(DOT, CHIP, {"mul": value}), False)
            self.assertIs(is_table(DOT, Machine({}), {"mul": value}), type(value) is int and 0 <= value < 10**30)

    def test_bent_papers(self):
        covered, bare = cover_paper(DOT, CHIP), cover_paper(DOT, CHIP.without_pattern("add"))
        within, beyond = cost_paper(DOT, CHIP, 4), cost_paper(DOT, CHIP, 3)
        for value in (list(covered), covered[:2], (*covered, 1), ("bare", covered[2]), ("Covered", *covered[1:])):
            self.assertIs(is_cover_paper(DOT, CHIP, value), False)
        for value in (("covered", covered[2], covered[1]), ("covered", None, covered[2]), ("covered", covered[1], None)):
            self.assertIs(is_cover_paper(DOT, CHIP, value), False)
        self.assertIs(is_cover_paper(DOT, CHIP, bare), False)
        for value in (list(bare), (*bare, {}), ("bare", None), ("bare",), ("covered", *bare[1:])):
            self.assertIs(is_cover_paper(DOT, CHIP.without_pattern("add"), value), False)
        self.assertIs(is_cover_paper(DOT, CHIP.without_pattern("add"), bare), True)
        self.assertIs(is_cost_paper(DOT, CHIP, 4, within), True)
        self.assertIs(is_cost_paper(DOT, CHIP, 3, within), False)
        self.assertIs(is_cost_paper(DOT, CHIP, 3, beyond), True)
        self.assertIs(is_cost_paper(DOT, CHIP, 4, beyond), False)
        for value in (list(within), (*within, 1), ("beyond", within[1]), ("within", beyond[1]), ("within",), ("within", None)):
            self.assertIs(is_cost_paper(DOT, CHIP, 4, value), False)
        for node in covered[2]:
            for change in (1, -1):
                table = {**covered[2], node: covered[2][node] + change}
                is_right = World(DOT, CHIP).is_table(table) and table["mul"] + table["sum"] == 4
                self.assertIs(is_cover_paper(DOT, CHIP, ("covered", covered[1], table)), is_right)
        for table in ({**covered[2], "zz": 0}, {**covered[2], 5: 0}, {**covered[2], None: 0}, {**covered[2], "mul.2": 1}):
            self.assertIs(is_table(DOT, CHIP, table), False)
            self.assertIs(is_cover_paper(DOT, CHIP, ("covered", covered[1], table)), False)
        self.assertIs(is_cover_paper(DOT, CHIP, ("covered", covered[1], covered[1], covered[2])), False)
        self.assertIs(is_cover_paper(DOT, CHIP.without_pattern("add"), ("bare", bare[1], bare[1])), False)
        self.assertIs(is_cost_paper(DOT, CHIP, 3, ("Beyond", beyond[1])), False)
        self.assertIs(is_cost_paper(DOT, CHIP, 4, ("Within", within[1])), False)
        true_one = {**covered[2], "mul.0": True}
        self.assertIs(is_table(DOT, CHIP, true_one), False)

    def test_nodes_and_names(self):
        for value in [*odd_values(), "mul.2", "sum.0", "sum.1", "put"]:
            refused(self, InvalidArgument, wants, DOT, CHIP, value, None)
            refused(self, InvalidArgument, margin, DOT, CHIP, value, None)
        for value in [*odd_values(), "mul.0", "sum", "alu"]:
            refuses_name(self, value, wants, DOT, CHIP, "mul", value)
            refuses_name(self, value, margin, DOT, CHIP, "mul", value)
            refuses_name(self, value, pattern_margin, DOT, CHIP, value)
        refused(self, InvalidArgument, wants, DOT, CHIP, "mul", "add")
        refused(self, InvalidArgument, wants, DOT, CHIP, "sum", "put")
        self.assertIsNone(margin(DOT, CHIP, "mul", "add"))

    def test_numbers(self):
        for value in odd_values():
            if type(value) is not int or not 0 <= value < 2:
                refuses_number(self, value, cover_at, DOT, CHIP, value)
            if type(value) is not int or not 0 <= value < 10**30:
                refuses_number(self, value, cost_paper, DOT, CHIP, value)
                refuses_number(self, value, is_cost_paper, DOT, CHIP, value, None)
                refuses_number(self, value, cover_by_cost, DOT, CHIP, value, "x")
            if type(value) is not int or value != 0:
                refuses_number(self, value, cover_by_cost, DOT, CHIP, 4, value)
            if value is not True and value is not False:
                refused(self, InvalidArgument, hurried, DOT, CHIP, careful=value)
                refused(self, InvalidArgument, behind, DOT, CHIP, careful=value)
        refuses_number(self, 0, cover_by_cost, DOT, CHIP, 6, 0)

    def test_nothing_is_changed(self):
        cover, table = cheapest(DOT, CHIP), least_table(DOT, CHIP)
        kept, kept_table = dict(cover), dict(table)
        cover_cost(DOT, CHIP, cover)
        number_of(DOT, CHIP, cover)
        open_count(DOT, CHIP, cover)
        is_cover_paper(DOT, CHIP, ("covered", cover, table))
        refused(self, InvalidCover, cover_row, PAIRS, CHIP, cover)
        self.assertEqual((cover, table), (kept, kept_table))
        self.assertEqual(list(cover), list(kept))
        table.clear()
        self.assertEqual(least_table(DOT, CHIP), kept_table)


if __name__ == "__main__":
    unittest.main()
