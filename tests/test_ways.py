"""Ways and bars, held against all covers and all slots of small bodies, and against a plain judge."""

import unittest

from loopfoundry.covers.covers import cover_cost
from loopfoundry.covers.orders import count_covers, each_cover
from loopfoundry.errors import InvalidBody, InvalidMachine, TooMany
from loopfoundry.jobs.jobs import Job
from loopfoundry.machine.machines import Machine
from loopfoundry.plans.plans import faults, is_plan
from loopfoundry.search.ways import has_way, is_way_paper, way_paper
from loopfoundry.source.bodies import Body
from tests.helpers import (
    CHIP,
    DOT,
    PAIRS,
    SecondJudge,
    all_slots_plan,
    bent_values,
    draw_body,
    draw_deep,
    draw_rings,
    drawn_tree,
    odd_values,
    refused,
    refuses_number,
    seeded,
    told_arcs,
    unit_machine,
)

WAY = ("way", {"mul": "mulld", "mul.1": "get", "sum": "add"}, {"mul": 3, "mul.1": 0, "sum": 7})


def draw_world(random, limit=8, chance=0.4, most_covers=200):
    """A body and a machine within the limits of the search."""
    while True:
        body, machine = draw_body(random, limit=limit, spread=3), unit_machine(random, chance=chance)
        try:
            has_way(body, machine, 32, most=0)
        except TooMany:
            continue
        if count_covers(body, machine) <= most_covers:
            return body, machine


def good_costs(body, machine, interval):
    """The costs of all covers that have a plan."""
    rows = [(cover_cost(body, machine, cover), cover) for cover in each_cover(body, machine)]
    return [cost for cost, cover in rows if all_slots_plan(Job(body, machine, cover), interval)]


class DrawnWorldsTest(unittest.TestCase):
    def test_by_all_covers_and_slots(self):
        random = seeded(700)
        kinds = {"way": 0, "bar": 0}
        for _ in range(400):
            body, machine = draw_world(random, most_covers=40)
            interval = random.randint(1, 5)
            costs = good_costs(body, machine, interval)
            for most in (None, random.randint(0, 20), *[min(costs) - k for k in (0, 1) if costs]):
                if most is not None and most < 0:
                    continue
                there = any(most is None or cost <= most for cost in costs)
                paper = way_paper(body, machine, interval, most=most)
                kinds[paper[0]] += 1
                self.assertEqual(paper[0], "way" if there else "bar")
                self.assertIs(has_way(body, machine, interval, most=most), there)
                self.assertIs(is_way_paper(body, machine, interval, paper, most=most), True)
                if there:
                    _, cover, starts = paper
                    self.assertTrue(most is None or cover_cost(body, machine, cover) <= most)
                    self.assertIs(is_plan(Job(body, machine, cover), interval, starts), True)
                    self.assertEqual((list(cover), list(starts)), (sorted(cover), sorted(starts)))
                else:
                    self.assertTrue(SecondJudge(body, machine, interval, most).is_right(paper[1], {}, {}))
        self.assertGreater(min(kinds.values()), 300)

    def test_bars_by_another_hand(self):
        random = seeded(701)
        made, kinds = 0, set()
        while made < 150:
            body, machine = draw_world(random, limit=4, chance=0.8, most_covers=12)
            interval = random.randint(1, 3)
            most = random.choice((None, None, random.randint(0, 8)))
            if has_way(body, machine, interval, most=most):
                continue
            judge = SecondJudge(body, machine, interval, most)
            tree = drawn_tree(random, judge, {}, {}, 7)
            if tree is None or tree == ("cost",):
                continue
            made += 1
            kinds.update(word for word in ("unit", "circuit", "slot", "cost") if f"'{word}'" in str(tree))
            self.assertIs(is_way_paper(body, machine, interval, ("bar", tree), most=most), True)
        self.assertEqual(len(kinds), 4)

    def test_bent_bars_and_ways(self):
        random = seeded(702)
        told = {True: 0, False: 0}
        for _ in range(250):
            body, machine = draw_world(random, limit=5, chance=0.8, most_covers=30)
            interval, most = random.randint(1, 3), random.choice((None, random.randint(0, 8)))
            paper = way_paper(body, machine, interval, most=most)
            if paper[0] == "way":
                continue
            judge = SecondJudge(body, machine, interval, most)
            others = [*body.operations, *machine.names, *machine.units, 0, 1, -1, interval, True, None, (), "x"]
            others += [("cost",), ("unit", "u", 0), ("circuit", body.operations[:1]), 0, 1]
            for _ in range(12):
                tree = bent_values(random, paper[1], others)
                right = "[" not in str(tree) and "True" not in str(tree) and judge.is_right(tree, {}, {})
                told[right] += 1
                self.assertIs(is_way_paper(body, machine, interval, ("bar", tree), most=most), right, tree)
        self.assertGreater(told[False], 500)
        self.assertGreater(told[True], 50)

    def check_papers(self, worlds, intervals):
        """Exactly one paper is right: by the plain judge, and by all slots where these are few."""
        kinds = {"way": 0, "bar": 0}
        for random, (body, machine) in worlds:
            try:
                costs = [cover_cost(body, machine, cover) for cover in each_cover(body, machine)]
                has_way(body, machine, 32)
            except TooMany:
                continue
            for interval in random.sample(intervals, 2):
                for most in (None, random.choice(costs) if costs else 3):
                    kind, *told = paper = way_paper(body, machine, interval, most=most)
                    kinds[kind] += 1
                    self.assertIs(is_way_paper(body, machine, interval, paper, most=most), True)
                    if kind == "way":
                        self.assertTrue(most is None or cover_cost(body, machine, told[0]) <= most)
                        self.assertEqual(faults(Job(body, machine, told[0]), interval, told[1]), ())
                    else:
                        self.assertTrue(SecondJudge(body, machine, interval, most).is_right(told[0], {}, {}))
                        if interval < 4 and len(costs) < 30:
                            fine = [cost for cost in good_costs(body, machine, interval) if most is None or cost <= most]
                            self.assertEqual(fine, [])
        return kinds

    def test_rings(self):
        random = seeded(704)
        kinds = self.check_papers([(random, draw_rings(random)) for _ in range(300)], range(1, 13))
        self.assertGreater(min(kinds.values()), 200)

    def test_trees_of_several_levels(self):
        random = seeded(705)
        kinds = self.check_papers([(random, draw_deep(random)) for _ in range(400)], range(1, 9))
        self.assertGreater(min(kinds.values()), 200)

    def test_told_arcs(self):
        random = seeded(703)
        for _ in range(60):
            body, machine = draw_world(random)
            for cover in list(each_cover(body, machine))[:5]:
                self.assertEqual(tuple(told_arcs(body, machine, cover)), Job(body, machine, cover).arcs)


class JudgeTest(unittest.TestCase):
    def judged(self, tree, interval=1, most=None, body=DOT, machine=CHIP):
        return is_way_paper(body, machine, interval, ("bar", tree), most=most)

    def test_ways(self):
        self.assertIs(is_way_paper(DOT, CHIP, 2, WAY), True)
        self.assertIs(is_way_paper(DOT, CHIP, 2, WAY, most=4), True)
        self.assertIs(is_way_paper(DOT, CHIP, 2, WAY, most=3), False)
        self.assertIs(is_way_paper(DOT, CHIP, 3, WAY), False)
        self.assertIs(is_way_paper(DOT, CHIP, 1, WAY), False)
        _, cover, starts = WAY
        bent = [("way", cover), ("way", cover, starts, ()), ["way", cover, starts], ("bar", cover, starts)]
        bent += [("way", starts, cover), ("way", {**cover, "mul": "mul"}, starts), ("way", cover, {**starts, "sum": 5})]
        bent += [("way", cover, {**starts, "sum": 8}), ("way", cover, {**starts, "mul": True}), ("way", {}, {})]
        bent += [("wax", cover, starts), ("bar", ("cost",), ()), ("bar",), ("way",)]
        bent += [("way", cover, {**starts, "mul.0": 0}), ("way", {**cover, "mul.0": "get"}, starts)]
        for value in [*odd_values(), *bent]:
            self.assertIs(is_way_paper(DOT, CHIP, 2, value), False, value)
            self.assertIs(is_way_paper(DOT, CHIP, 2, ("bar", value)), False, value)
        self.assertIs(is_way_paper(DOT, CHIP, 2, ("bar", ("cost",), ()), most=1), False)

    def test_costs(self):
        self.assertIs(self.judged(("cost",), most=3), True)
        self.assertIs(self.judged(("cost",), most=4), False)
        self.assertIs(self.judged(("cost",)), False)
        one = CHIP.without_pattern("add")
        self.assertIs(self.judged(("cost",), machine=one), True)
        self.assertIs(self.judged(("pattern", "sum", ()), machine=one), True)
        self.assertIs(self.judged(("pattern", "sum", (("add", ("cost",)),)), machine=one), False)
        branches = (("mul", ("cost",)), ("mulld", ("cost",)))
        self.assertIs(self.judged(("pattern", "mul", branches), most=3), True)
        self.assertIs(self.judged(("pattern", "mul", branches), most=4), False)
        self.assertIs(self.judged(("pattern", "mul", branches[::-1]), most=3), False)
        self.assertIs(self.judged(("pattern", "mul", branches[:1]), most=3), False)
        self.assertIs(self.judged(("pattern", "mul", (*branches, ("put", ("cost",)))), most=3), False)
        self.assertIs(self.judged(("pattern", "mul.0", (("get", ("cost",)),)), most=3), False)

    def test_slots(self):
        unit = ("unit", "u", 0)
        machine = Machine.from_lines("unit u 1", "unit v 2", "pattern h 1 1 u 0 u 2 v 0 v 1 : h ( )")
        body = Body(("set", "a", ("op", "h")))

        def judged(interval, tree):
            return self.judged(("pattern", "a", (("h", tree),)), interval, None, body, machine)

        self.assertIs(judged(2, ("slot", "a", (unit,))), True)
        self.assertIs(judged(2, ("slot", "a", (unit, ("unit", "u", 1)))), True)
        self.assertIs(judged(2, ("slot", "a", (unit, unit))), False)
        self.assertIs(judged(2, ("slot", "a", (unit,) * 3)), False)
        self.assertIs(judged(3, ("slot", "a", (unit, unit))), False)
        self.assertIs(judged(2, unit), False)
        self.assertIs(judged(2, ("slot", "a", (("unit", "v", 0),))), False)
        self.assertIs(judged(1, ("slot", "a", (unit,))), True)
        self.assertIs(judged(1, ("slot", "a", (("unit", "v", 0),))), False)
        for bent in (("unit", "u", 2), ("unit", "u", -2), ("unit", "w", 0), ("unit", "u", False), ("unit", None, 0)):
            self.assertIs(judged(2, ("slot", "a", (bent,))), False)
        for bent in (("slot", [], (unit,)), ("slot", {}, (unit,)), ("pattern", [], ()), ("unit", [], 0), ("slot", "b", (unit,)), ("slot", "a", [unit]), ("slot", "a", ()), ("slot", "a", unit)):
            self.assertIs(judged(2, bent), False)
        again = ("slot", "a", (("slot", "a", (unit, ("unit", "u", 1))),))
        self.assertIs(judged(2, again), False)
        two = Body(("set", "a", ("op", "h")), ("set", "b", ("op", "h")))
        for trees, right in (((unit,), False), ((unit, unit), True)):
            tree = ("slot", "b", (("slot", "a", trees),))
            tree = ("pattern", "a", (("h", ("pattern", "b", (("h", tree),))),))
            self.assertIs(self.judged(tree, 2, None, two, machine), right)
        self.assertIs(self.judged(("slot", "a", (unit,)), 2, None, body, machine), False)

    def test_circuits(self):
        tree = ("pattern", "put", (("put", ("pattern", "put.0", (("f", ("pattern", "put.0.0", (("get", None),))),))),))

        def judged(leaf, interval=3):
            def filled(value):
                if value is None:
                    return leaf
                return tuple(filled(part) for part in value) if isinstance(value, tuple) else value

            return self.judged(filled(tree), interval, None, PAIRS)

        ring = ("put", "put.0.0", "put.0")
        for k in range(3):
            self.assertIs(judged(("circuit", ring[k:] + ring[:k])), True)
            self.assertIs(judged(("circuit", ring[k:] + ring[:k]), 4), False)
        self.assertIs(judged(("circuit", ring[::-1])), False)
        self.assertIs(judged(("circuit", ring * 21)), True)
        self.assertIs(judged(("circuit", ring * 22)), False)
        bent = [(), ring[:2], ("put", "put", "put.0.0", "put.0"), (*ring, "put"), list(ring), ("put",), ("x",), (None,)]
        for circuit in [*bent, ({},), ("put", "put.0.0", [])]:
            self.assertIs(judged(("circuit", circuit)), False, circuit)
        self.assertIs(judged(("circuit", ring, ())), False)
        # With the interval 4 the ring needs just 0; with told slots its stretches can need more.
        slots = tuple(("circuit", ring) if slot != 0 else ("cost",) for slot in range(4))
        self.assertIs(judged(("slot", "put", slots[:1]), 4), False)
        # With slots told to `put` and to `put.0.0` the latter starts just one tick behind it.
        rows = tuple(("slot", "put.0.0", tuple(("circuit", ring) for _ in range(4))) for _ in range(1))
        self.assertIs(judged(("slot", "put", rows), 4), False)

    def test_stretches(self):
        # A ring of one and one tick with the interval 4: told slots that are 2 apart need 2 and 2.
        body = Body(("set", "a", ("op", "f", ("at", "b", 1))), ("set", "b", ("op", "f", ("at", "a", 0))))
        machine = Machine.from_lines("unit u 1", "pattern f 2 0 u 0 : f ( _ )")

        def judged(interval, leaves):
            tree = ("slot", "a", (("slot", "b", leaves),))
            tree = ("pattern", "a", (("f", ("pattern", "b", (("f", tree),))),))
            return self.judged(tree, interval, None, body, machine)

        leaf = ("circuit", ("a", "b"))
        self.assertIs(judged(4, (("unit", "u", 0), leaf, leaf, leaf)), False)
        self.assertIs(judged(4, (leaf, leaf, ("unit", "u", 0), leaf)), False)
        self.assertIs(judged(3, (("unit", "u", 0), leaf, leaf)), True)
        self.assertIs(judged(3, (leaf, leaf, leaf)), True)
        self.assertIs(has_way(body, machine, 4), True)
        self.assertIs(has_way(body, machine, 3), False)
        self.assertIs(judged(2, (leaf, leaf)), True)

    def test_an_arc_to_itself(self):
        body = Body(("set", "a", ("op", "f", ("at", "a", 1))))
        machine = Machine.from_lines("pattern f 4 0 : f ( _ )")
        for interval in range(1, 6):
            told = self.judged(("pattern", "a", (("f", ("circuit", ("a",))),)), interval, None, body, machine)
            self.assertIs(told, interval < 4)
            self.assertIs(self.judged(("pattern", "a", (("f", ("circuit", ("a", "a"))),)), interval, None, body, machine), False)
            self.assertIs(has_way(body, machine, interval), interval >= 4)

    def test_neighbours_are_never_equal(self):
        body = Body(("set", "a", ("op", "f", ("at", "a", 1), ("at", "b", 1))), ("set", "b", ("op", "k", ("at", "a", 0))))
        machine = Machine.from_lines("pattern f 3 0 : f ( _ _ )", "pattern k 3 0 : k ( _ )")

        def judged(*circuit):
            tree = ("pattern", "a", (("f", ("pattern", "b", (("k", ("circuit", circuit)),))),))
            return self.judged(tree, 2, None, body, machine)

        for circuit, right in (("ab", True), ("ba", True), ("a", True), ("aab", False), ("aba", False), ("abab", True)):
            self.assertIs(judged(*circuit), right, circuit)

    def test_circuits_of_65_operations(self):
        rows = [("set", "a", ("op", "f", ("at", "e", 1)))]
        rows += [("set", name, ("op", "f", ("at", before, 0))) for before, name in zip("abcd", "bcde")]
        body, machine = Body(*rows), Machine.from_lines("pattern f 4 0 : f ( _ )")
        for turns, right in ((1, True), (12, True), (13, False)):
            tree = ("circuit", tuple("abcde") * turns)
            for name in "abcde":
                tree = ("pattern", name, (("f", tree),))
            self.assertIs(self.judged(tree, 3, None, body, machine), right)

    def test_circuits_of_64_operations(self):
        rows = [("set", "a", ("op", "f", ("at", "h", 1)))]
        rows += [("set", name, ("op", "f", ("at", before, 0))) for before, name in zip("abcdefg", "bcdefgh")]
        body, machine = Body(*rows), Machine.from_lines("pattern f 4 0 : f ( _ )")
        ring, tree = tuple("abcdefgh"), ("circuit", tuple("abcdefgh") * 8)
        self.assertEqual(len(tree[1]), 64)
        for name in ring:
            tree = ("pattern", name, (("f", tree),))
        self.assertIs(self.judged(tree, 31, None, body, machine), True)
        self.assertIs(self.judged(tree, 32, None, body, machine), False)
        self.assertEqual(way_paper(body, machine, 31)[0], "bar")
        self.assertEqual(way_paper(body, machine, 32)[0], "way")


class EdgesTest(unittest.TestCase):
    def test_no_cover(self):
        for interval in (1, 32):
            for most in (None, 0, 99):
                machine = CHIP.without_pattern("add")
                paper = way_paper(DOT, machine, interval, most=most)
                self.assertEqual(paper[0], "bar")
                self.assertIs(is_way_paper(DOT, machine, interval, paper, most=most), True)
                self.assertIs(has_way(DOT, machine, interval, most=most), False)
        self.assertEqual(way_paper(DOT, Machine({}), 1)[0], "bar")

    def test_greatest_cost_0(self):
        machine = Machine.from_lines("pattern f 1 0 : f ( _ )", "pattern l 2 0 : @", "pattern put 1 0 : = _")
        self.assertIs(has_way(PAIRS, machine, 4, most=0), True)
        self.assertIs(has_way(PAIRS, machine, 3, most=0), False)
        self.assertEqual(way_paper(PAIRS, machine, 4, most=0), way_paper(PAIRS, machine, 4))
        self.assertIs(has_way(PAIRS, machine.with_cost("l", 1), 4, most=0), False)

    def test_a_machine_without_units(self):
        machine = CHIP.with_moves(save=(1, ()), reload=(1, ()))
        rows = [(*row[:4], ()) for row in machine.patterns]
        free = Machine.of({}, tuple(rows))
        self.assertIs(has_way(DOT, free, 1), True)
        self.assertIs(has_way(DOT, free, 1, most=3), False)

    def test_sizes(self):
        def body(many):
            return Body(*[("set", name, ("op", "h")) for name in "abcdefghi"[:many]])

        machine = Machine.from_lines("unit u 1", "pattern h 1 1 : h ( )", "pattern g 1 1 u 0 : g ( )")
        self.assertEqual(way_paper(body(8), machine, 1)[0], "way")
        nine = body(9)
        for call in (way_paper, has_way):
            self.assertEqual(refused(self, TooMany, call, nine, machine, 1).limit, 8)
        cover, starts = {name: "h" for name in nine}, {name: 0 for name in nine}
        self.assertIs(is_way_paper(nine, machine, 1, ("way", cover, starts)), True)
        self.assertIs(is_way_paper(nine, machine, 1, ("bar", ("cost",)), most=8), True)
        lines = ["pattern h 1 1 : h ( )", "pattern hb 2 1 : h ( )"]
        many = Machine.from_lines(*lines)
        self.assertEqual(count_covers(body(7), many), 128)
        self.assertEqual(way_paper(body(7), many, 1)[0], "way")
        for call in (way_paper, has_way):
            self.assertEqual(refused(self, TooMany, call, body(8), many, 1).limit, 200)
        rows = [("set", name, ("op", word)) for name, word in zip("abc", "hgk")]
        words = [f"pattern {word}{k} 1 1 : {word} ( )" for word, count in (("h", "xy"), ("g", "xy"), ("k", "xyzw")) for k in count]
        self.assertEqual(count_covers(Body(*rows), Machine.from_lines(*words)), 16)

    def test_200_covers(self):
        body = Body(*[("set", name, ("op", word)) for name, word in zip("abcde", "ggkkh")])
        words = [f"pattern {word}{k} 1 1 : {word} ( )" for word, count in (("g", "wx"), ("k", "vwxyz")) for k in count]
        machine = Machine.from_lines(*words, "pattern h 1 1 : h ( )")
        self.assertEqual(count_covers(body, machine), 100)
        both = Body(*body.statements[:4], *[("set", name, ("op", "g")) for name in "e"])
        self.assertEqual(count_covers(both, machine), 200)
        self.assertEqual(way_paper(both, machine, 1)[0], "way")
        more = Machine.from_lines(*words[:-1], "pattern h 1 1 : h ( )", "pattern gy 1 1 : g ( )")
        wide = Body(*body.statements[:4], ("set", "e", ("op", "g")), ("set", "f", ("op", "h")))
        self.assertEqual(count_covers(wide, more), 27 * 16)
        self.assertEqual(refused(self, TooMany, way_paper, wide, more, 1).limit, 200)

    def test_four_and_five_operations_with_units(self):
        machine = Machine.from_lines("unit u 1", "pattern g 1 1 u 0 : g ( )", "pattern h 1 1 : h ( )")
        for many in (4, 5):
            body = Body(*[("set", name, ("op", "g")) for name in "abcde"[:many]], ("set", "z", ("op", "h")))
            for interval in (3, 4, 5):
                if many == 4:
                    self.assertIs(has_way(body, machine, interval), interval >= 4)
                else:
                    for most in (None, 0):
                        self.assertEqual(refused(self, TooMany, has_way, body, machine, interval, most=most).limit, 4)
        deep = Machine.from_lines("unit u 1", "pattern f 1 1 u 0 : f ( _ )", "pattern h 1 1 u 0 : h ( )")
        rows = [("set", "a", ("op", "f", ("op", "f", ("op", "f", ("op", "h")))))]
        self.assertIs(has_way(Body(*rows), deep, 4), True)
        rows.append(("set", "b", ("op", "h")))
        self.assertEqual(refused(self, TooMany, has_way, Body(*rows), deep, 4).limit, 4)
        # Any cover counts, whatever it costs, but only what a cover can have.
        rows = [*machine.lines, "pattern hh 1 20 u 0 : h ( )"]
        body = Body(*[("set", name, ("op", "g")) for name in "abcd"], ("set", "z", ("op", "h")))
        self.assertIs(has_way(body, machine, 4), True)
        self.assertEqual(refused(self, TooMany, has_way, body, Machine.from_lines(*rows), 4, most=5).limit, 4)
        rows = [*machine.lines, "pattern k 1 1 u 0 : k ( h ( ) _ )", "pattern kk 1 1 : k ( _ _ )"]
        body = Body(*[("set", name, ("op", "g")) for name in "abcd"], ("set", "z", ("op", "k", ("op", "h"), ("op", "q"))))
        self.assertIs(has_way(body, Machine.from_lines(*rows), 4), False)

    def test_long_intervals(self):
        random = seeded(710)
        for _ in range(60):
            body, machine = draw_world(random)
            interval = random.randint(4 * len(body.operations), 32)
            there = count_covers(body, machine) > 0
            self.assertIs(has_way(body, machine, interval), there)
            paper = way_paper(body, machine, interval)
            self.assertIs(is_way_paper(body, machine, interval, paper), True)

    def test_great_bodies_are_judged(self):
        names = "abcdefghijklmnopqrstuvwx"
        rows = [("set", "a", ("op", "f", ("at", "x", 1)))]
        rows += [("set", name, ("op", "f", ("at", before, 0))) for before, name in zip(names, names[1:])]
        body, machine = Body(*rows), Machine.from_lines("unit u 1", "pattern f 1 1 u 0 : f ( _ )")
        starts = {name: place for place, name in enumerate(names)}
        cover = {name: "f" for name in names}
        self.assertIs(is_way_paper(body, machine, 24, ("way", cover, starts), most=24), True)
        self.assertIs(is_way_paper(body, machine, 23, ("way", cover, starts)), False)
        tree = ("slot", "a", (("slot", "b", tuple([("unit", "u", 0)] + [("circuit", tuple("ab"))])),))
        self.assertIs(is_way_paper(body, machine, 2, ("bar", tree)), False)


class CoupledTest(unittest.TestCase):
    def test_operations_without_a_common_unit_on_a_common_circuit(self):
        # With the interval 2, b starts 1 tick behind a and d 2 ticks behind c; a and c, b and d share a unit.
        rows = [
            ("set", "a", ("op", "f", ("at", "b", 1))),
            ("set", "b", ("op", "g", ("at", "a", 0))),
            ("set", "c", ("op", "h", ("at", "d", 2))),
            ("set", "d", ("op", "k", ("at", "c", 0))),
        ]
        lines = ["unit u 1", "unit v 1", "pattern f 1 1 u 0 : f ( _ )", "pattern g 1 1 v 0 : g ( _ )"]
        for ticks, there in ((1, True), (2, False)):
            more = [f"pattern h {ticks} 1 u 0 : h ( _ )", f"pattern k {ticks} 1 v 0 : k ( _ )"]
            body, machine = Body(*rows), Machine.from_lines(*lines, *more)
            self.assertIs(all_slots_plan(Job(body, machine, {"a": "f", "b": "g", "c": "h", "d": "k"}), 2), there)
            paper = way_paper(body, machine, 2)
            self.assertEqual(paper[0], "way" if there else "bar")
            self.assertIs(is_way_paper(body, machine, 2, paper), True)


class WrongArgumentsTest(unittest.TestCase):
    def test_arguments(self):
        for value in odd_values():
            if not isinstance(value, Body):
                for call in (way_paper, has_way):
                    refused(self, InvalidBody, call, value, None, 0, most=-1)
                refused(self, InvalidBody, is_way_paper, value, None, 0, None, most=-1)
            if not isinstance(value, Machine):
                for call in (way_paper, has_way):
                    refused(self, InvalidMachine, call, DOT, value, 0, most=-1)
                refused(self, InvalidMachine, is_way_paper, DOT, value, 0, None, most=-1)
            if type(value) is not int or not 1 <= value <= 32:
                for call in (way_paper, has_way):
                    refuses_number(self, value, call, DOT, CHIP, value, most=-1)
                refuses_number(self, value, is_way_paper, DOT, CHIP, value, None, most=-1)
            if value is not None and (type(value) is not int or not 0 <= value < 10**30):
                for call in (way_paper, has_way):
                    refuses_number(self, value, call, DOT, CHIP, 2, most=value)
                refuses_number(self, value, is_way_paper, DOT, CHIP, 2, None, most=value)

    def test_nothing_is_changed(self):
        cover, starts = dict(WAY[1]), dict(WAY[2])
        lines = CHIP.lines
        refuses_number(self, 0, is_way_paper, DOT, CHIP, 0, ("way", cover, starts))
        refuses_number(self, -1, is_way_paper, DOT, CHIP, 1, ("way", cover, starts), most=-1)
        is_way_paper(DOT, CHIP, 2, ("way", cover, starts))
        self.assertEqual((cover, starts, CHIP.lines), (WAY[1], WAY[2], lines))

    def test_errors_come_ahead_of_sizes(self):
        wide = Body(*[("set", name, ("op", "h")) for name in "abcdefghi"])
        refuses_number(self, 0, way_paper, wide, CHIP, 0)
        refuses_number(self, -1, way_paper, wide, CHIP, 1, most=-1)
        refused(self, TooMany, way_paper, wide, CHIP, 1, most=10**30 - 1)


if __name__ == "__main__":
    unittest.main()
