"""Worlds in order: by the three conditions, with least distances by walking; ways and bars of easier and harder ones."""

import unittest
from itertools import product

from loopfoundry.covers.covers import cover_cost, fitting, is_cover
from loopfoundry.errors import InvalidArgument, InvalidBody, InvalidMachine, TooMany
from loopfoundry.jobs.jobs import Job
from loopfoundry.jobs.orders import bound
from loopfoundry.machine.machines import Machine
from loopfoundry.plans.plans import is_plan
from loopfoundry.search.frontier import least_cost, least_interval
from loopfoundry.search.ways import is_way_paper, way_paper
from loopfoundry.source.bodies import Body
from loopfoundry.worlds.order import is_no_harder, left_to, trimmed
from tests.helpers import CHIP, DOT, PAIRS, bent_values, draw_body, odd_values, refused, refuses_number, seeded, unit_machine

BACK = Body(("set", "y", ("op", "f", ("load", "a", 1, 0), ("at", "z", 1))), ("store", "s", "a", 1, 0, ("at", "z", 2)), ("set", "z", ("op", "g", ("load", "a", 1, 0))))
QUICK = Machine.from_lines("unit p 1", "pattern f 1 1 p 0 : f ( @ _ )", "pattern g 1 1 : g ( @ )", "pattern put 1 1 p 0 : = _")
SLOW = Machine.from_lines("unit p 1", "pattern f 1 1 p 0 : f ( @ _ )", "pattern g 1 1 : g ( @ )", "pattern put 2 1 p 0 : = _")
TREE = ("pattern", "y", (("f", ("slot", "y", (("unit", "p", 1),))), ("h", ("cost",))))


def walked_flows(body, limit=80):
    """The least distances of flows and anti, by all pairs of rounds below a limit."""
    rows = {}
    for name, array, a, b in body.stores:
        for load, other, c, e in body.loads:
            if array != other:
                continue
            ahead = body.names.index(name) < body.names.index(load.split(".")[0])
            for j in range(limit):
                if (c * j + e - b) % a == 0 and 0 <= (c * j + e - b) // a < limit:
                    i = (c * j + e - b) // a
                    row = ("flow" if j > i or (i == j and ahead) else "anti", name, load)
                    rows[row] = min(abs(i - j), rows.get(row, limit))
    return rows


def is_like(tree, other):
    if tree[0] != other[0]:
        return False
    if tree[0] == "load":
        return True
    if tree[0] == "at":
        return tree[1] == other[1] and tree[2] >= other[2]
    return tree[1] == other[1] and len(tree) == len(other) and all(map(is_like, tree[2:], other[2:]))


def second_order(body, machine, other_body, other_machine):
    """Whether a world is no harder, by the three conditions."""
    for row in body.statements:
        if row[1] not in other_body or other_body[row[1]][0] != row[0] or not is_like(row[-1], other_body[row[1]][-1]):
            return False
    fit = {name for names in fitting(body, other_machine).values() for name in names}
    for name in fit:
        if name not in machine:
            return False
        (_, shape, ticks, cost, uses), (_, own, own_ticks, own_cost, own_uses) = other_machine.pattern(name), machine.pattern(name)
        if own != shape or own_cost > cost or own_ticks > ticks or (shape[0] == "store" and own_ticks != ticks):
            return False
        if any(use not in uses or machine.units[use[0]] < other_machine.units[use[0]] for use in own_uses):
            return False
    mine, others = walked_flows(body), walked_flows(other_body)
    return all(row in others and others[row] <= apart for row, apart in mine.items())


def changed(random, body, machine):
    """A world with some changes that make it harder, or that could do so."""
    kind = random.choice(("distance", "ticks", "cost", "use", "unit", "less", "more", "place", "statement", "places", "order"))
    rows, patterns = list(body.statements), list(machine.patterns)
    at = random.randrange(len(patterns))
    name, shape, ticks, cost, uses = patterns[at]
    units = machine.units
    if kind == "ticks":
        patterns[at] = (name, shape, min(4, max(1, ticks + random.choice((-1, 1)))), cost, uses)
    elif kind == "cost":
        patterns[at] = (name, shape, ticks, max(0, cost + random.choice((-1, 1))), uses)
    elif kind == "use" and units:
        use = (random.choice(sorted(units)), random.randint(0, 3))
        patterns[at] = (name, shape, ticks, cost, tuple(sorted({*uses, use} if random.random() < 0.5 else {*uses} - {use})))
    elif kind == "unit" and units:
        unit = random.choice(sorted(units))
        units[unit] = min(3, max(1, units[unit] + random.choice((-1, 1))))
    elif kind == "less":
        patterns.pop(at)
    elif kind == "more" and len(patterns) < 8:
        patterns.append(("new", ("op", "odd", ("hole",)), 1, 0, ()))
    elif kind == "statement":
        if random.random() < 0.5 and len(rows) > 1:
            rows.pop(random.randrange(len(rows)))
        else:
            rows.append(("set", "extra", ("op", "h")))
    elif kind == "order":
        random.shuffle(rows)
    elif kind == "distance":
        def lowered(tree):
            if tree[0] == "at" and random.random() < 0.6:
                return ("at", tree[1], min(3, max(1, tree[2] + random.choice((-1, 1)))))
            return (*tree[:2], *map(lowered, tree[2:])) if tree[0] == "op" else tree

        rows = [(*row[:-1], lowered(row[-1])) for row in rows]
    try:
        new = Body(*rows)
        if kind == "place" and new.arrays:
            new = new.shifted(random.choice(new.arrays), random.randint(-3, 3))
        if kind == "places" and new.arrays:
            new = new.scaled(random.choice(new.arrays), random.choice((-2, -1, 2, 3)))
    except InvalidBody:
        new = body
    return new, Machine.of(units, tuple(patterns))


def moved_loads(random, body):
    """The body with other places of some loads."""
    def moved(tree):
        if tree[0] == "load" and random.random() < 0.6:
            return ("load", tree[1], tree[2], tree[3] + random.randint(-2, 2))
        return (*tree[:2], *map(moved, tree[2:])) if tree[0] == "op" else tree

    return Body(*[(*row[:-1], moved(row[-1])) for row in body.statements])


def draw_pair(random, limit=8):
    """Two worlds that are alike but for a few changes."""
    body, machine = draw_body(random, limit=limit, spread=3), unit_machine(random)
    other, other_machine = body, machine
    for _ in range(random.randint(0, 3)):
        other, other_machine = changed(random, other, other_machine)
    if random.random() < 0.3:
        other = moved_loads(random, other)
    return body, machine, other, other_machine


class OrderTest(unittest.TestCase):
    def test_the_three_conditions(self):
        random, told = seeded(900), {}
        for _ in range(1500):
            one, machine, other, other_machine = draw_pair(random)
            found = (is_no_harder(one, machine, other, other_machine), is_no_harder(other, other_machine, one, machine))
            wanted = (second_order(one, machine, other, other_machine), second_order(other, other_machine, one, machine))
            self.assertEqual(found, wanted)
            told[found] = told.get(found, 0) + 1
        self.assertGreater(min(told.values()), 60)
        self.assertEqual(len(told), 4)

    def test_what_makes_a_world_harder(self):
        base = DOT
        harder = [
            (base.with_statement(("set", "more", ("op", "add", ("at", "sum", 1), ("at", "sum", 1)))), CHIP),
            (base, CHIP.without_pattern("get")),
            (base, CHIP.with_cost("get", 2)),
            (base, self.exchanged("get", 2, 3)),
            (base, self.exchanged("mul", 4, (("alu", 0), ("mem", 3)))),
        ]
        for other, machine in harder:
            self.assertEqual((is_no_harder(base, CHIP, other, machine), is_no_harder(other, machine, base, CHIP)), (True, False))
        two = CHIP.with_units({"alu": 2, "mem": 1})
        self.assertEqual((is_no_harder(base, two, base, CHIP), is_no_harder(base, CHIP, base, two)), (True, False))
        far = Body(base["mul"], ("set", "sum", ("op", "add", ("at", "sum", 2), ("at", "mul", 0))))
        self.assertEqual((is_no_harder(far, CHIP, base, CHIP), is_no_harder(base, CHIP, far, CHIP)), (True, False))
        for ticks in (1, 3):
            self.assertIs(is_no_harder(BACK, QUICK, BACK, QUICK), True)
            other = QUICK.without_pattern("put").with_pattern(("put", ("store", ("hole",)), ticks, 1, (("p", 0),)))
            self.assertIs(is_no_harder(BACK, QUICK, BACK, other), ticks == 1)
            self.assertIs(is_no_harder(BACK, other, BACK, QUICK), ticks == 1)

    def exchanged(self, name, at, value):
        rows = [(*row[:at], value, *row[at + 1 :]) if row[0] == name else row for row in CHIP.patterns]
        return Machine.of(CHIP.units, tuple(rows))

    def test_worlds_that_are_alike(self):
        random = seeded(901)
        for _ in range(150):
            body, machine = draw_body(random, limit=10), unit_machine(random, patterns=7)
            likes = [(body, machine.with_pattern(("odd", ("op", "odd"), 1, 0, ()))), (body, machine.with_moves(save=(3, ())))]
            for array in body.arrays:
                likes.append((body.shifted(array, random.randint(-9, 9)), machine))
                likes.append((body.scaled(array, random.choice((-3, -1, 2))), machine))
            for k in range(len(body) - 1):
                one, other = body.names[k : k + 2]
                if (one, other) not in bound(body):
                    rows = list(body.statements)
                    rows[k : k + 2] = rows[k + 1], rows[k]
                    likes.append((Body(*rows), machine))
            for other, other_machine in likes:
                self.assertIs(is_no_harder(body, machine, other, other_machine), True)
                self.assertIs(is_no_harder(other, other_machine, body, machine), True)
            self.assertIs(is_no_harder(body.renamed({}, arrays={array: "q" + array for array in body.arrays}), machine, body, machine), True)

    def test_patterns_that_fit_only_in_the_first_body(self):
        odd = Machine.from_lines("pattern f 1 1 : f ( _ )", "pattern g 1 1 : g ( _ )")
        only = Machine.from_lines("pattern f 1 1 : f ( _ )")
        f = Body(("set", "a", ("op", "f", ("at", "a", 1))))
        both = f.with_statement(("set", "b", ("op", "g", ("at", "a", 1))))
        self.assertIs(is_no_harder(f, only, both, odd), True)
        self.assertIs(is_no_harder(both, only, both, odd), False)
        self.assertIs(is_no_harder(f, odd, f, only), True)

    def test_the_examples(self):
        self.assertEqual([least_interval(BACK, QUICK), least_interval(BACK, SLOW)], [3, 2])
        self.assertEqual([is_no_harder(BACK, QUICK, BACK, SLOW), is_no_harder(BACK, SLOW, BACK, QUICK)], [False, False])
        self.assertIs(is_no_harder(BACK.without("y"), QUICK, BACK, QUICK), True)

    def test_other_shapes_and_kinds(self):
        store = Body(("store", "a", "x", 1, 0, ("op", "h")))
        put = Machine.from_lines("pattern h 1 1 : h ( )", "pattern put 1 1 : = _")
        other = Machine.from_lines("pattern h 1 1 : h ( )", "pattern put 1 1 : = h ( )")
        self.assertIs(is_no_harder(store, put, store, other), False)
        self.assertIs(is_no_harder(store, put, Body(("set", "a", ("op", "h"))), put), False)
        self.assertIs(is_no_harder(store, put, Body(("store", "a", "y", -9, 4, ("op", "h"))), put), True)
        self.assertIs(is_no_harder(store, put, Body(("store", "b", "x", 1, 0, ("op", "h"))), put), False)
        one, two = [Body(("set", "a", ("op", "k", ("at", name, 1))), ("set", "b", ("op", "h"))) for name in "ab"]
        k = Machine.from_lines("pattern h 1 1 : h ( )", "pattern k 1 1 : k ( _ )")
        self.assertIs(is_no_harder(one, k, two, k), False)
        self.assertIs(is_no_harder(one, k, one, k), True)

    def test_other_trees(self):
        machine = Machine({})
        trees = [("op", "f", ("op", "h")), ("op", "g", ("op", "h")), ("op", "f", ("load", "x", 1, 0)), ("op", "f", ("at", "a", 1))]
        trees += [("op", "f"), ("op", "f", ("op", "h"), ("op", "h")), ("load", "x", 1, 0), ("op", "f", ("op", "f", ("op", "h")))]
        trees += [("op", "f", ("at", "b", 1)), ("op", "f", ("op", "h", ("op", "h")))]
        for one, other in product(trees, repeat=2):
            worlds = [Body(("set", "a", tree), ("set", "b", ("op", "h"))) for tree in (one, other)]
            self.assertIs(is_no_harder(worlds[0], machine, worlds[1], machine), one == other, (one, other))
            stores = [Body(("set", "a", ("op", "h")), ("set", "b", ("op", "h")), ("store", "s", "y", 1, 0, tree)) for tree in (one, other)]
            self.assertIs(is_no_harder(stores[0], machine, stores[1], machine), one == other, (one, other))

    def test_flows_and_anti(self):
        put = Machine.from_lines("pattern put 1 1 : = @")

        def world(offset):
            return Body(("store", "s", "x", 1, 0, ("load", "x", 1, offset)))

        # With the offset -d there is a flow of the distance d, with d an anti of it.
        for one, other in product(range(-3, 4), repeat=2):
            easier = one == other or (one < 0 and one <= other < 0) or (one >= 0 and 0 <= other <= one)
            self.assertIs(is_no_harder(world(one), put, world(other), put), easier, (one, other))
        none = Body(("store", "s", "x", 1, 0, ("load", "y", 1, 0)))
        self.assertIs(is_no_harder(none, put, world(1), put), True)
        self.assertIs(is_no_harder(world(1), put, none, put), False)


class WaysAndBarsTest(unittest.TestCase):
    def test_ways_and_bars_of_easier_and_harder_worlds(self):
        random, ways, bars, costs = seeded(902), 0, 0, 0
        for _ in range(900):
            one, machine, other, other_machine = draw_pair(random)
            if not is_no_harder(one, machine, other, other_machine):
                continue
            interval, most = random.randint(1, 4), random.choice((None, None, random.randint(0, 9)))
            try:
                easy = way_paper(one, machine, interval, most=most)
                hard = way_paper(other, other_machine, interval, most=most)
            except TooMany:
                continue
            if hard[0] == "way":
                ways += 1
                cover, starts = left_to(one, hard[1]), left_to(one, hard[2])
                self.assertIs(is_cover(one, machine, cover), True)
                self.assertLessEqual(cover_cost(one, machine, cover), cover_cost(other, other_machine, hard[1]))
                self.assertIs(is_plan(Job(one, machine, cover), interval, starts), True)
                self.assertIs(is_way_paper(one, machine, interval, ("way", cover, starts), most=most), True)
            if easy[0] == "bar":
                bars += 1
                tree = trimmed(one, other_machine, interval, easy[1])
                self.assertIs(is_way_paper(other, other_machine, interval, ("bar", tree), most=most), True)
            if random.random() < 0.3:
                costs += 1
                mine, others = [least_cost(*world, interval) for world in ((one, machine), (other, other_machine))]
                self.assertTrue(others is None or (mine is not None and mine <= others))
        self.assertGreater(min(ways, bars, costs), 80)

    def test_trimmed_trees(self):
        trim = ("pattern", "y", (("f", ("slot", "y", (("unit", "p", 1),))),))
        self.assertEqual(trimmed(BACK, QUICK, 2, TREE), trim)
        self.assertEqual(trimmed(BACK, QUICK.without_pattern("f"), 2, TREE), ("pattern", "y", ()))
        deep = ("slot", "z", (TREE, ("pattern", "z", (("f", ("cost",)), ("g", TREE)))))
        self.assertEqual(trimmed(BACK, QUICK, 2, deep), ("slot", "z", (trim, ("pattern", "z", (("g", trim),)))))
        for tree in (("cost",), ("unit", "q", 1), ("circuit", ("other.0", "y")), ("slot", "other", (("cost",),))):
            self.assertEqual(trimmed(BACK, QUICK, 2, tree), tree)

    def test_left_dicts(self):
        row = {"y": 1, "y.0": 2, "y.1": 3, "x": 4, "s": None, None: 5, ("y",): 6, 0: 7}
        self.assertEqual(left_to(BACK, row), {"s": None, "y": 1, "y.0": 2})
        self.assertEqual((list(left_to(BACK, row)), left_to(BACK, {})), (["s", "y", "y.0"], {}))
        self.assertEqual(len(row), 8)
        self.assertEqual(left_to(DOT, left_to(BACK, row)), {})


class FormTest(unittest.TestCase):
    def judged(self, tree, interval=2):
        try:
            return trimmed(BACK, QUICK, interval, tree) is not None
        except InvalidArgument:
            return False

    def test_forms(self):
        cost = ("cost",)
        good = [cost, ("unit", "abc", 0), ("unit", "q", 1), ("circuit", ("y",)), ("circuit", ("y.0.1.2.0", "q") * 32), ("pattern", "y", ())]
        good += [("slot", "q.1", (cost,)), ("slot", "q", (cost, cost)), ("pattern", "s", tuple((name, cost) for name in "abcdefgh"))]
        bad = [(), ("unit", "abc", 2), ("unit", "Q", 0), ("unit", "q", True), ("unit", "q"), ("unit", "", 0), ("circuit", ()), ("circuit", ("y",) * 65)]
        bad += [("circuit", ["y"]), ("circuit", ("y.3",)), ("circuit", "y"), ("pattern", "y.2", ()), ("pattern", "q", ()), ("pattern", "y", [])]
        bad += [("pattern", "y", (("a", cost), ("a", cost))), ("pattern", "y", (("b", cost), ("a", cost))), ("pattern", "y", (("A", cost),))]
        bad += [("pattern", "y", tuple((name, cost) for name in "abcdefghi")), ("pattern", "y", (("a", cost, 0),)), ("pattern", "y", (["a", cost],))]
        bad += [("circuits", ("y",)), ("slots", "q", (cost,)), ("units", "q", 0), ("patterns", "y", ())]
        bad += [("slot", "q", ()), ("slot", "q", (cost,) * 3), ("slot", "q", [cost]), ("slot", "y.0.0.0.0.0", (cost,)), ("slot", "q", cost)]
        bad += [("cost", 0), ["cost"], ("costs",), ("slot", "q", (cost, ("unit", "q", 2))), ("pattern", "y", (("h", ("pattern", "q", ())),))]
        for tree in good:
            self.assertIs(self.judged(tree), True, tree)
        for tree in bad:
            self.assertIs(self.judged(tree), False, tree)
        self.assertEqual([self.judged(("slot", "q", (cost,) * 3), interval) for interval in (1, 2, 3)], [False, False, True])
        self.assertEqual([self.judged(("unit", "q", 31), interval) for interval in (31, 32)], [False, True])

    def test_50_and_51_nodes_on_a_way_down(self):
        for interval in (1, 2):
            tree = ("cost",)
            for _ in range(49):
                tree = ("slot", "y", (tree,)) if interval == 1 else ("pattern", "y", (("f", tree),))
            self.assertIs(self.judged(tree, interval), True)
            self.assertIs(self.judged(("pattern", "y", (("f", tree),)), interval), False)
            self.assertIs(self.judged(("slot", "y", (tree,)), interval), False)

    def test_bent_trees(self):
        random, told = seeded(903), {True: 0, False: 0}
        others = ["y", "z", "s", "q", "f", "g", "h", "p", 0, 1, 2, True, None, ("cost",), (), ("unit", "p", 0), "y.9"]

        def fine(tree, room=50):
            if type(tree) is not tuple or not tree or not room or type(tree[0]) is not str:
                return False
            if tree[0] in ("cost", "circuit"):
                return len(tree) == 1 if tree[0] == "cost" else len(tree) == 2 and type(tree[1]) is tuple and 0 < len(tree[1]) < 65 and all(map(text, tree[1]))
            if len(tree) != 3:
                return False
            if tree[0] == "unit":
                return type(tree[1]) is str and tree[1].isalpha() and type(tree[2]) is int and 0 <= tree[2] < 2
            if not text(tree[1]) or type(tree[2]) is not tuple:
                return False
            if tree[0] == "slot":
                return len(tree[2]) in (1, 2) and all(fine(below, room - 1) for below in tree[2])
            if tree[0] != "pattern" or tree[1] not in BACK.operations:
                return False
            if not all(type(row) is tuple and len(row) == 2 and type(row[0]) is str and row[0].isalpha() for row in tree[2]):
                return False
            names = [row[0] for row in tree[2]]
            return names == sorted(set(names)) and len(names) < 9 and all(fine(row[1], room - 1) for row in tree[2])

        def text(value):
            return type(value) is str and value.split(".")[0].isalpha() and all(part in "012" and part for part in value.split(".")[1:])

        for _ in range(4000):
            tree = ("slot", "y", (TREE, ("pattern", "z", (("f", ("circuit", ("y", "z"))), ("g", TREE)))))
            bent = bent_values(random, tree, others)
            right = "[" not in str(bent) and fine(bent)
            told[right] += 1
            self.assertIs(self.judged(bent), right, bent)
        self.assertGreater(min(told.values()), 300)


class WrongArgumentsTest(unittest.TestCase):
    def test_arguments(self):
        for value in odd_values():
            if not isinstance(value, Body):
                refused(self, InvalidBody, is_no_harder, value, None, None, None)
                refused(self, InvalidBody, is_no_harder, DOT, CHIP, value, None)
                refused(self, InvalidBody, left_to, value, None)
                refused(self, InvalidBody, trimmed, value, None, 0, None)
            if not isinstance(value, Machine):
                refused(self, InvalidMachine, is_no_harder, DOT, value, None, None)
                refused(self, InvalidMachine, is_no_harder, DOT, CHIP, PAIRS, value)
                refused(self, InvalidMachine, trimmed, DOT, value, 0, None)
            if not isinstance(value, dict):
                refused(self, InvalidArgument, left_to, DOT, value)
            if type(value) is not int or not 1 <= value <= 32:
                refuses_number(self, value, trimmed, DOT, CHIP, value, None)
            refused(self, InvalidArgument, trimmed, DOT, CHIP, 2, value)
            refused(self, InvalidArgument, trimmed, DOT, CHIP, 2, ("slot", "mul", (("cost",), value)))
            refused(self, InvalidArgument, trimmed, DOT, CHIP, 2, ("pattern", "mul", (("add", value),)))
        refused(self, InvalidArgument, trimmed, DOT, CHIP, 2, TREE)


if __name__ == "__main__":
    unittest.main()
