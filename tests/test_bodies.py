"""Bodies: which rows of statements they are, what they tell, and their runs."""

import unittest

from loopfoundry.errors import InvalidArgument, InvalidBody, InvalidTree
from loopfoundry.source.bodies import MAX_NODES, Body
from loopfoundry.source.trees import is_statement, levels
from tests.helpers import (
    CHIP,
    DOT,
    PAIRS,
    ascending,
    draw_body,
    draw_statements,
    fits_digits,
    odd_values,
    refused,
    refuses_name,
    refuses_number,
    seeded,
)

LEAF = ("load", "a", 1, 0)
SUM = ("set", "sum", ("op", "add", ("at", "sum", 1), LEAF))
PUT = ("store", "put", "x", 1, 0, LEAF)
BOTH = Body(SUM, PUT)
WIDE = 10**30 - 1


def meaning(operator, values):
    return (operator, *values)


def first(name, number):
    return ("first", name, number)


def contents(array, cell):
    return ("contents", array, cell)


def second_run(body, rounds):
    """The run, statement by statement, over texts of what was done."""
    log = {}
    memory = {}

    def told(tree, number):
        if tree[0] == "at":
            at = (tree[1], number - tree[2])
            return log[at] if at in log else first(*at)
        if tree[0] == "load":
            return memory.get((tree[1], tree[2] * number + tree[3]), contents(tree[1], tree[2] * number + tree[3]))
        return meaning(tree[1], tuple(told(below, number) for below in tree[2:]))

    for number in range(rounds):
        for row in body.statements:
            if row[0] == "set":
                log[row[1], number] = told(row[2], number)
            else:
                memory[row[2], row[3] * number + row[4]] = told(row[5], number)
    scalars = {}
    for name in sorted(row[1] for row in body.statements if row[0] == "set"):
        scalars[name] = tuple(log[name, number] for number in range(rounds))
    return scalars, {at: memory[at] for at in sorted(memory)}


def second_walk(text, node):
    yield text, node
    below = node[5:] if node[0] == "store" else node[2:] if node[0] == "op" else ()
    for index, tree in enumerate(below):
        yield from second_walk(f"{text}.{index}", tree)


def second_nodes(statements):
    for row in statements:
        yield from second_walk(row[1], row if row[0] == "store" else row[2])


def is_second_body(rows, window=60):
    """Whether the statements are a body; for small steps and offsets."""
    if not rows or len({row[1] for row in rows}) < len(rows):
        return False
    if len([text for text, node in second_nodes(rows) if node[0] != "at"]) > 24:
        return False
    kinds = {row[1]: row[0] for row in rows}
    seen = []
    for row in rows:
        for _, node in second_nodes([row]):
            if node[0] == "at" and (kinds.get(node[1]) != "set" or node[2] == 0 and node[1] not in seen):
                return False
        seen.append(row[1])
    cells = [(row[2], row[3] * n + row[4]) for row in rows if row[0] == "store" for n in range(window)]
    return len(set(cells)) == len(cells)


def short(many):
    """A body with so many working nodes."""
    rows = [("set", "abcdefghijklmnopqrstuvwxyz"[k], LEAF) for k in range(many)]
    return Body(*rows)


class ValidBodiesTest(unittest.TestCase):
    def test_drawn_rows(self):
        random = seeded(2)
        found = []
        for _ in range(1500):
            rows = draw_statements(random, spread=3)
            if random.random() < 0.3:
                rows[-1] = (rows[-1][0], rows[0][1], *rows[-1][2:])
            if random.random() < 0.5 and rows[-1][0] == "store":
                rows[-1] = (*rows[-1][:5], ("at", random.choice("abc"), random.randint(0, 1)))
            found.append(is_second_body(rows))
            if found[-1]:
                self.assertEqual(Body(*rows).statements, tuple(rows))
            else:
                refused(self, InvalidBody, Body, *rows)
                refused(self, InvalidBody, Body.of, tuple(rows))
        self.assertGreater(min(found.count(True), found.count(False)), 200)

    def test_working_nodes(self):
        self.assertEqual(MAX_NODES, 24)
        self.assertEqual(len(short(24).operations), 24)
        refused(self, InvalidBody, short, 25)
        wide = ("op", "f", ("op", "f", LEAF, LEAF, LEAF), ("op", "f", LEAF, LEAF, LEAF), ("op", "f", LEAF, LEAF, LEAF))
        twelve = ("store", "s", "x", 1, 0, ("op", "f", *wide[2:4], ("op", "f", LEAF)))
        self.assertEqual(len(Body(twelve).operations), 12)
        self.assertEqual(len(Body(twelve, (*twelve[:1], "t", "y", *twelve[3:])).operations), 24)
        thirteen = (*twelve[:1], "t", "y", *twelve[3:5], wide)
        self.assertEqual(len(Body(thirteen).operations), 14)
        refused(self, InvalidBody, Body, twelve, thirteen)
        # An "at" is no working node.
        ats = ("op", "f", ("at", "a", 1), ("at", "a", 2), ("at", "a", 3))
        self.assertEqual(len(short(23).with_statement(("set", "z", ats)).operations), 24)

    def test_reads(self):
        one = ("set", "one", LEAF)
        for distance in range(4):
            read = ("store", "two", "x", 1, 0, ("at", "one", distance))
            self.assertEqual(Body(one, read).reads, (("two", "one", distance),))
            if distance == 0:
                refused(self, InvalidBody, Body, read, one)
            else:
                self.assertEqual(Body(read, one).names, ("two", "one"))
        itself = ("set", "one", ("op", "f", ("at", "one", 0)))
        refused(self, InvalidBody, Body, itself)
        self.assertEqual(Body(("set", "one", ("op", "f", ("at", "one", 3)))).reads, (("one", "one", 3),))
        refused(self, InvalidBody, Body, PUT, ("set", "a", ("op", "f", ("at", "put", 1))))
        refused(self, InvalidBody, Body, ("set", "a", ("op", "f", ("at", "b", 1))))

    def test_stores_that_meet(self):
        def stores(*places):
            rows = [("store", "ab"[k], "x", *place, ("op", "f")) for k, place in enumerate(places)]
            return Body(*rows)

        for places in (((2, 0), (2, 1)), ((1, 0), (-1, -1)), ((3, 0), (-3, -3)), ((6, 1), (10, 4)), ((1, 5), (-1, 4))):
            self.assertEqual(len(stores(*places)), 2, places)
            self.assertEqual(len(stores(*reversed(places))), 2, places)
        for places in (((1, 0), (1, 5)), ((1, 0), (-1, 0)), ((1, 0), (-1, 7)), ((2, 0), (3, 1)), ((6, 1), (10, 5))):
            refused(self, InvalidBody, stores, *places)
            refused(self, InvalidBody, stores, *reversed(places))
        # They meet only far away, or just not.
        far = (WIDE, -(10**29))
        refused(self, InvalidBody, stores, (WIDE - 1, 0), (WIDE, 1 - WIDE))
        refused(self, InvalidBody, stores, (1, 0), (-1, WIDE))
        self.assertEqual(len(stores((1, 1), (-1, 0))), 2)
        self.assertEqual(len(stores((10**29, 0), (10**29, 1))), 2)
        self.assertEqual(len(stores((2 * 10**29, 0), (-(10**29) * 2, 10**29))), 2)
        refused(self, InvalidBody, stores, far, (1, 0))
        # Other arrays do not count.
        two = Body(PUT, ("store", "other", "y", 1, 0, LEAF))
        self.assertEqual(two.arrays, ("a", "x", "y"))

    def test_one_store_of_each_array_is_free(self):
        self.assertEqual(Body(("store", "a", "x", -WIDE, WIDE, LEAF)).stores, (("a", "x", -WIDE, WIDE),))

    def test_odd_values(self):
        refused(self, InvalidBody, Body)
        refused(self, InvalidBody, Body.of, ())
        for value in odd_values():
            refused(self, InvalidBody, Body, value)
            refused(self, InvalidBody, Body, PUT, value)
            refused(self, InvalidBody, Body.of, value)
            refused(self, InvalidBody, Body.of, (PUT, value))
        refused(self, InvalidBody, Body.of, [PUT])
        refused(self, InvalidBody, Body, PUT, PUT)
        self.assertEqual(Body.of((SUM, PUT)), Body(SUM, PUT))


class ToldTest(unittest.TestCase):
    def test_properties(self):
        random = seeded(3)
        for _ in range(300):
            body = draw_body(random)
            rows = body.statements
            walked = list(second_nodes(rows))
            working = {text: node for text, node in walked if node[0] != "at"}
            self.assertEqual(body.names, tuple(row[1] for row in rows))
            self.assertEqual(body.scalars, tuple(sorted(row[1] for row in rows if row[0] == "set")))
            self.assertEqual(body.operations, tuple(sorted(working)))
            loads = sorted((text, *node[1:]) for text, node in working.items() if node[0] == "load")
            self.assertEqual(body.loads, tuple(loads))
            stores = sorted(row[1:5] for row in rows if row[0] == "store")
            self.assertEqual(body.stores, tuple(stores))
            self.assertEqual(body.arrays, tuple(sorted({row[1] for row in loads + stores})))
            reads = {(text.split(".")[0], *node[1:]) for text, node in walked if node[0] == "at"}
            self.assertEqual(body.reads, tuple(sorted(reads)))
            self.assertEqual(str(body), f"body of {len(rows)} statements, {len(working)} nodes")
            self.assertEqual({text: body.tree(text) for text in body.operations}, working)
            self.assertEqual({name: body[name] for name in body}, {row[1]: row for row in rows})
            self.assertEqual((len(body), list(body)), (len(rows), list(body.names)))
            for told in (body.scalars, body.operations, body.loads, body.stores, body.reads, body.arrays):
                self.assertTrue(ascending(told) and isinstance(told, tuple))

    def test_names_and_trees(self):
        self.assertIn("sum", BOTH)
        self.assertEqual(BOTH["put"], PUT)
        self.assertEqual(BOTH.tree("put"), PUT)
        self.assertEqual(BOTH.tree("put.0"), LEAF)
        self.assertEqual(BOTH.tree("sum"), SUM[2])
        for value in [*odd_values(), "sun", "sum.1", "put.0"]:
            self.assertIs(value in BOTH, False)
            refuses_name(self, value, lambda at: BOTH[at], value)
        for value in [*odd_values(), "sum.0", "sum.2", "put.0.0", "Sum", "sum.01"]:
            refused(self, InvalidArgument, BOTH.tree, value)

    def test_equality(self):
        self.assertTrue(BOTH == Body(SUM, PUT))
        self.assertFalse(BOTH != Body(SUM, PUT))
        self.assertFalse(BOTH == Body(PUT, SUM))
        self.assertFalse(BOTH == Body(SUM))
        for value in odd_values():
            self.assertFalse(BOTH == value)
        self.assertEqual(str(Body(SUM)), "body of 1 statements, 2 nodes")


class ChangedBodiesTest(unittest.TestCase):
    def setUp(self):
        self.before = (BOTH.statements, BOTH.names, BOTH.loads, BOTH.reads, str(BOTH))

    def tearDown(self):
        self.assertEqual(self.before, (BOTH.statements, BOTH.names, BOTH.loads, BOTH.reads, str(BOTH)))

    def test_with_statement(self):
        new = ("set", "new", LEAF)
        self.assertEqual(BOTH.with_statement(new), Body(SUM, PUT, new))
        self.assertEqual(BOTH.with_statement(new, at=None), Body(SUM, PUT, new))
        for at in range(3):
            rows = [SUM, PUT]
            rows.insert(at, new)
            self.assertEqual(BOTH.with_statement(new, at=at), Body(*rows))
        for value in odd_values():
            refused(self, InvalidTree, BOTH.with_statement, value)
            refused(self, InvalidTree, BOTH.with_statement, value, at=9)
            if value is not None and (type(value) is not int or not 0 <= value <= 2):
                refuses_number(self, value, BOTH.with_statement, SUM, at=value)
        refused(self, InvalidTree, BOTH.with_statement, LEAF)
        refused(self, InvalidBody, BOTH.with_statement, SUM)
        refused(self, InvalidBody, BOTH.with_statement, ("set", "new", ("op", "f", ("at", "old", 1))))
        refused(self, InvalidBody, BOTH.with_statement, ("set", "new", ("op", "f", ("at", "sum", 0))), at=0)
        refused(self, InvalidBody, BOTH.with_statement, ("store", "new", "x", 1, 1, LEAF))

    def test_replaced(self):
        new = ("store", "sum", "y", 1, 0, LEAF)
        self.assertEqual(BOTH.replaced(new), Body(new, PUT))
        self.assertEqual(BOTH.replaced(PUT), BOTH)
        for value in odd_values():
            refused(self, InvalidTree, BOTH.replaced, value)
        refuses_name(self, "new", BOTH.replaced, ("set", "new", LEAF))
        refuses_name(self, "new", BOTH.replaced, ("set", "new", ("op", "f", ("at", "new", 0))))
        refused(self, InvalidBody, BOTH.replaced, ("set", "put", ("op", "f", ("at", "put", 0))))
        refused(self, InvalidBody, DOT.replaced, ("store", "mul", "x", 1, 0, LEAF))

    def test_without(self):
        self.assertEqual(BOTH.without("sum"), Body(PUT))
        self.assertEqual(BOTH.without("sum", "sum"), Body(PUT))
        self.assertEqual(BOTH.without(), BOTH)
        refused(self, InvalidBody, BOTH.without, "sum", "put")
        refused(self, InvalidBody, DOT.without, "mul")
        self.assertEqual(DOT.without("sum").names, ("mul",))
        for value in odd_values():
            refuses_name(self, value, BOTH.without, value)
            refuses_name(self, value, BOTH.without, "sum", "put", value, "zzz")

    def test_renamed(self):
        swapped = DOT.renamed({"mul": "sum", "sum": "mul"}, arrays={"a": "b", "b": "a"})
        self.assertEqual(
            swapped,
            Body(
                ("set", "sum", ("op", "mul", ("load", "b", 1, 0), ("load", "a", 1, 0))),
                ("set", "mul", ("op", "add", ("at", "mul", 1), ("at", "sum", 0))),
            ),
        )
        self.assertEqual(DOT.renamed({}), DOT)
        self.assertEqual(DOT.renamed({}, arrays={}), DOT)
        self.assertEqual(PAIRS.renamed({"put": "x"}, arrays={"x": "f"}).stores, (("x", "f", 1, 0),))
        self.assertEqual(PAIRS.renamed({"put": "x"}, arrays={"x": "f"}).loads, (("x.0.0", "f", 2, -4),))
        self.assertEqual(PAIRS.renamed({"put": "put"}), PAIRS)
        names, arrays = {"sum": "total"}, {"a": "c"}
        self.assertEqual(BOTH.renamed(names, arrays=arrays).reads, (("total", "total", 1),))
        self.assertEqual((names, arrays), ({"sum": "total"}, {"a": "c"}))

    def test_wrong_renaming(self):
        for value in odd_values():
            if value not in ({}, {"a": 1}):
                refused(self, InvalidArgument, BOTH.renamed, value)
            if value is not None and value != {}:
                refused(self, InvalidArgument, BOTH.renamed, {}, arrays=value)
                refused(self, InvalidArgument, BOTH.renamed, {"zzz": "y"}, arrays=value)
        for bad in ({"sum": "A"}, {"sum": 1}, {"sum": None}, {1: "a"}, {None: "a"}, {("sum",): "a"}, [("sum", "a")]):
            refused(self, InvalidArgument, BOTH.renamed, bad)
        refuses_name(self, "b", BOTH.renamed, {"z": "a", "b": "a", "sum": "c"})
        refuses_name(self, "z", BOTH.renamed, {"z": "a"}, arrays={"b": "c"})
        refuses_name(self, "b", BOTH.renamed, {"sum": "put"}, arrays={"z": "c", "b": "c"})
        refuses_name(self, "sum", BOTH.renamed, {}, arrays={"sum": "c"})
        refuses_name(self, "a", BOTH.renamed, {"a": "c"})
        refused(self, InvalidArgument, BOTH.renamed, {"sum": "put"})
        refused(self, InvalidArgument, BOTH.renamed, {"sum": "b", "put": "b"})
        refused(self, InvalidArgument, BOTH.renamed, {}, arrays={"a": "x"})
        refused(self, InvalidArgument, BOTH.renamed, {"sum": "new"}, arrays={"a": "y", "x": "y"})

    def test_renamed_runs_are_the_same(self):
        random = seeded(4)
        for _ in range(60):
            body = draw_body(random)
            new = random.sample(["p", "q", "r", "a", "b", "ab"], len(body))
            names = dict(zip(body.names, new))
            arrays = dict(zip(body.arrays, random.sample(["x", "y", "z"], len(body.arrays))))
            back = {new: old for old, new in names.items()}
            undone = {new: old for old, new in arrays.items()}
            other = body.renamed(names, arrays=arrays)
            self.assertEqual(other.renamed(back, arrays=undone), body)
            scalars, cells = body.run(6, meaning, first, contents)
            told = other.run(
                6,
                meaning,
                lambda name, number: first(back[name], number),
                lambda array, cell: contents(undone[array], cell),
            )
            self.assertEqual(told[0], {name: scalars[back[name]] for name in sorted(told[0])})
            self.assertEqual(told[1], {at: cells[undone[at[0]], at[1]] for at in sorted(told[1])})
            self.assertEqual(len(told[1]), len(cells))

    def test_moved(self):
        random = seeded(5)
        for _ in range(100):
            body = draw_body(random)
            if not body.arrays:
                continue
            array, by = random.choice(body.arrays), random.choice([-3, -2, -1, 1, 2, 3])
            scalars, cells = body.run(6, meaning, first, contents)
            for other, there, back in (
                (body.shifted(array, by), lambda cell: cell + by, lambda cell: cell - by),
                (body.scaled(array, by), lambda cell: cell * by, lambda cell: cell // by),
            ):
                told = other.run(
                    6, meaning, first, lambda name, cell: contents(name, back(cell) if name == array else cell)
                )
                self.assertEqual(told[0], scalars)
                moved = {(name, there(cell) if name == array else cell): cells[name, cell] for name, cell in cells}
                self.assertEqual(told[1], moved)
                self.assertTrue(ascending(told[1]))
            self.assertEqual(body.shifted(array, by).shifted(array, -by), body)
            self.assertEqual(body.scaled(array, by).scaled(array, by), body.scaled(array, by * by))
            self.assertEqual(body.shifted(array, 0), body)
            self.assertEqual(body.scaled(array, 1), body)

    def test_one_name_for_several_things(self):
        body = Body(
            ("set", "x", ("op", "x", ("at", "x", 1), ("load", "x", 1, 0))),
            ("store", "y", "y", 1, 0, ("op", "y", ("at", "x", 2), ("load", "y", 2, -5))),
        )
        self.assertEqual(body.shifted("x", 3)["x"], ("set", "x", ("op", "x", ("at", "x", 1), ("load", "x", 1, 3))))
        self.assertEqual(body.shifted("x", 3)["y"], body["y"])
        self.assertEqual(body.scaled("y", 2)["y"][3:5], (2, 0))
        self.assertEqual(body.scaled("y", 2)["x"], body["x"])
        self.assertEqual(body.renamed({"x": "z"}).reads, (("y", "z", 2), ("z", "z", 1)))
        self.assertEqual(body.renamed({"x": "z"}).arrays, ("x", "y"))
        self.assertEqual(body.renamed({}, arrays={"x": "z"}).reads, body.reads)

    def test_moved_too_far(self):
        body = Body(
            ("store", "b", "x", 3, 7, ("op", "f", ("load", "x", 2, -5), ("load", "y", 9, 9))),
            ("set", "a", ("load", "x", 0, 4)),
        )
        big = WIDE
        self.assertEqual(body.shifted("x", big - 7).stores, (("b", "x", 3, big),))
        refuses_number(self, big + 1, body.shifted, "x", big - 6)
        refuses_number(self, big + 1, body.shifted, "x", big - 3)
        refuses_number(self, big + 4, body.shifted, "x", big)
        refuses_number(self, -big - 5, body.shifted, "x", -big)
        refuses_number(self, -big - 1, body.shifted, "x", -big + 4)
        # In a place the step comes first, and loads come ahead of stores.
        refuses_number(self, 4 * 3 * 10**29, body.scaled, "x", 3 * 10**29)
        refuses_number(self, -5 * 2 * 10**29 - 5, body.scaled, "x", 2 * 10**29 + 1)
        refuses_number(self, 9 * 2 * 10**29, body.scaled, "y", 2 * 10**29)
        store = Body(("store", "b", "x", 3, 7, ("op", "f", ("load", "x", 2, 1))))
        refuses_number(self, 7 * 2 * 10**29, store.scaled, "x", 2 * 10**29)
        refuses_number(self, 3 * 4 * 10**29, store.scaled, "x", 4 * 10**29)
        refuses_number(self, 2 * 6 * 10**29, store.scaled, "x", 6 * 10**29)
        self.assertEqual(store.scaled("x", 10**29).stores, (("b", "x", 3 * 10**29, 7 * 10**29),))

    def test_wrong_moves(self):
        for value in odd_values():
            if value != "a":
                refuses_name(self, value, BOTH.shifted, value, None)
                refuses_name(self, value, BOTH.scaled, value, 0)
            if not fits_digits(value):
                refuses_number(self, value, BOTH.shifted, "a", value)
                refuses_number(self, value, BOTH.scaled, "x", value)
        refuses_number(self, 0, BOTH.scaled, "x", 0)
        refuses_name(self, "sum", BOTH.shifted, "sum", 1)


class RunsTest(unittest.TestCase):
    def test_second_run(self):
        random = seeded(6)
        for _ in range(150):
            body = draw_body(random)
            for rounds in (0, 1, 2, 7, 12):
                told = body.run(rounds, meaning, first, contents)
                self.assertIsInstance(told, tuple)
                self.assertEqual(told, second_run(body, rounds))
                self.assertTrue(ascending(told[0]) and ascending(told[1]))

    def test_many_rounds(self):
        count = Body(("set", "n", ("op", "add", ("at", "n", 1))), ("store", "s", "x", -2, 1, ("at", "n", 0)))
        scalars, cells = count.run(64, lambda operator, values: values[0] + 1, lambda name, number: number, None)
        self.assertEqual(scalars, {"n": tuple(range(64))})
        self.assertEqual(cells, {("x", 1 - 2 * number): number for number in range(63, -1, -1)})
        self.assertEqual(list(cells)[0], ("x", -125))
        self.assertEqual(count.run(0, None, None, None), ({"n": ()}, {}))

    def test_first_values(self):
        body = Body(("set", "a", ("op", "f", ("at", "a", 3), ("at", "a", 1))))
        scalars, _ = body.run(3, lambda operator, values: values, lambda name, number: number, None)
        self.assertEqual(scalars, {"a": ((-3, -1), (-2, (-3, -1)), (-1, (-2, (-3, -1))))})

    def test_a_load_stands_ahead_of_its_own_store(self):
        body = Body(("store", "s", "x", 1, 0, ("op", "f", ("load", "x", 1, 0), ("load", "x", 1, -1))))
        _, cells = body.run(2, lambda operator, values: values, None, lambda array, cell: cell)
        self.assertEqual(cells, {("x", 0): (0, -1), ("x", 1): (1, (0, -1))})

    def test_wrong_rounds(self):
        for value in odd_values():
            if type(value) is not int or not 0 <= value <= 64:
                refuses_number(self, value, BOTH.run, value, None, None, None)
        refuses_number(self, 65, BOTH.run, 65, meaning, first, contents)
        refuses_number(self, -1, BOTH.run, -1, meaning, first, contents)

    def test_nothing_handed_out_changes_the_body(self):
        scalars, cells = BOTH.run(2, meaning, first, contents)
        scalars.clear()
        cells.clear()
        self.assertEqual(BOTH.run(2, meaning, first, contents), second_run(BOTH, 2))

    def test_helpers(self):
        self.assertTrue(all(is_statement(row) for row in BOTH.statements))
        self.assertEqual(levels(BOTH.tree("sum")), 2)
        self.assertNotIn(CHIP, BOTH)


if __name__ == "__main__":
    unittest.main()
