"""Machines: what they are, their lines, and machines that are made of others."""

import unittest

from loopfoundry.errors import InvalidArgument, InvalidMachine, ParseError
from loopfoundry.machine.machines import MAX_COST, MAX_PATTERNS, MAX_UNITS, Machine, is_pattern
from loopfoundry.machine.shapes import write_shape
from tests.helpers import CHIP, CHIP_LINES, draw_machine, odd_values, refused, refuses_name, refuses_number, seeded

HOLE, LOAD = ("hole",), ("load",)
GET = ("get", LOAD, 2, 1, (("mem", 0),))
PUT = ("put", ("store", HOLE), 1, 0, ())
UNITS = {"mem": 1, "alu": 3}
SMALL = Machine(UNITS, GET, PUT, save=(4, (("alu", 3),)), reload=(2, ()))


def named(name):
    return (name, LOAD, 1, 0, ())


def is_number(value, low, high):
    return type(value) is int and low <= value <= high


class PatternsTest(unittest.TestCase):
    def test_patterns(self):
        self.assertEqual((MAX_PATTERNS, MAX_UNITS, MAX_COST), (8, 4, 20))
        for ticks in range(-1, 7):
            self.assertIs(is_pattern(("p", LOAD, ticks, 0, ())), 1 <= ticks <= 4)
        for cost in range(-2, 24):
            self.assertIs(is_pattern(("p", LOAD, 1, cost, ())), 0 <= cost <= 20)
        for offset in range(-1, 6):
            self.assertIs(is_pattern(("p", LOAD, 1, 0, (("u", offset),))), 0 <= offset <= 3)
        for uses in ((("u", 0), ("u", 1)), (("u", 3), ("v", 0)), tuple(("u", k) for k in range(4))):
            self.assertIs(is_pattern(("p", LOAD, 1, 0, uses)), True)
            self.assertIs(is_pattern(("p", LOAD, 1, 0, uses[::-1])), False)
            self.assertIs(is_pattern(("p", LOAD, 1, 0, uses[:1] + uses)), False)
            self.assertIs(is_pattern(("p", LOAD, 1, 0, list(uses))), False)
        many = tuple(("abcdefgh"[k], offset) for k in range(8) for offset in range(4))
        self.assertIs(is_pattern(("p", LOAD, 1, 0, many)), True)
        for shape in (HOLE, ("store", ("store", HOLE)), ("load", "x"), "load", None):
            self.assertIs(is_pattern(("p", shape, 1, 0, ())), False)
        self.assertIs(is_pattern(("p", ("store", HOLE), 1, 0, ())), True)
        for value in (("p", LOAD, 1, 0), ("p", LOAD, 1, 0, (), ()), ["p", LOAD, 1, 0, ()], ("P", LOAD, 1, 0, ())):
            self.assertIs(is_pattern(value), False)
        for bad in (True, False, None, "1"):
            self.assertIs(is_pattern(("p", LOAD, bad, 0, ())), False)
            self.assertIs(is_pattern(("p", LOAD, 1, bad, ())), False)
            self.assertIs(is_pattern(("p", LOAD, 1, 0, (("u", bad),))), False)

    def test_odd_values(self):
        for value in odd_values():
            self.assertIs(is_pattern(value), False)
            self.assertIs(is_pattern((value, LOAD, 1, 0, ())), value == "a")
            self.assertIs(is_pattern(("p", value, 1, 0, ())), value == LOAD)
            self.assertIs(is_pattern(("p", LOAD, value, 0, ())), is_number(value, 1, 4))
            self.assertIs(is_pattern(("p", LOAD, 1, value, ())), is_number(value, 0, 20))
            self.assertIs(is_pattern(("p", LOAD, 1, 0, value)), value == () and type(value) is tuple)
            self.assertIs(is_pattern(("p", LOAD, 1, 0, (value,))), value == ("modulus", 2))
            self.assertIs(is_pattern(("p", LOAD, 1, 0, (("u", value),))), is_number(value, 0, 3))
            self.assertIs(is_pattern(("p", LOAD, 1, 0, ((value, 0),))), value == "a")


class MachinesTest(unittest.TestCase):
    def test_told(self):
        self.assertEqual(list(SMALL.units.items()), [("alu", 3), ("mem", 1)])
        self.assertEqual((SMALL.patterns, SMALL.names), ((GET, PUT), ("get", "put")))
        self.assertEqual((SMALL.save, SMALL.reload), ((4, (("alu", 3),)), (2, ())))
        lines = ("unit alu 3", "unit mem 1", "save 4 alu 3", "reload 2", "pattern get 2 1 mem 0 : @", "pattern put 1 0 : = _")
        self.assertEqual(SMALL.lines, lines)
        self.assertEqual((len(SMALL), list(SMALL)), (2, [GET, PUT]))
        self.assertEqual(str(SMALL), "machine of 2 patterns, 2 units")
        self.assertEqual([SMALL.pattern("put"), SMALL.index_of("put"), SMALL.copies("alu")], [PUT, 1, 3])
        self.assertIs("get" in SMALL, True)
        self.assertIs(GET in SMALL, False)
        for value in [*odd_values(), "mem"]:
            self.assertIs(value in SMALL, False)
            refuses_name(self, value, SMALL.pattern, value)
            refuses_name(self, value, SMALL.index_of, value)
            if value != "mem":
                refuses_name(self, value, SMALL.copies, value)
        refuses_name(self, "get", SMALL.copies, "get")

    def test_empty_ones(self):
        for machine in (Machine({}), Machine.of({}, ()), Machine.from_lines(), Machine.of_lines(())):
            self.assertEqual((machine.units, machine.patterns, machine.names), ({}, (), ()))
            self.assertEqual((machine.save, machine.reload, machine.lines), ((1, ()), (1, ()), ("save 1", "reload 1")))
            self.assertEqual((str(machine), len(machine)), ("machine of 0 patterns, 0 units", 0))
            self.assertEqual(machine.renamed({}), machine)
        self.assertEqual(Machine({"u": 1}).lines, ("unit u 1", "save 1", "reload 1"))

    def test_nothing_handed_out_changes_it(self):
        units = {"alu": 3, "mem": 1}
        machine = Machine(units, GET)
        units["alu"] = 1
        units["x"] = 9
        told = machine.units
        told.clear()
        self.assertEqual(machine.units, {"alu": 3, "mem": 1})
        self.assertEqual(machine.copies("alu"), 3)

    def test_limits(self):
        eight = [named(name) for name in "abcdefgh"]
        self.assertEqual(len(Machine({}, *eight)), 8)
        refused(self, InvalidMachine, Machine, {}, *eight, named("i"))
        refused(self, InvalidMachine, Machine.of, {}, (*eight, named("i")))
        four = {name: 1 for name in "abcd"}
        self.assertEqual(Machine(four).units, four)
        refused(self, InvalidMachine, Machine, {**four, "e": 1})
        for many in range(-1, 6):
            if 1 <= many <= 3:
                self.assertEqual(Machine({"u": many}).copies("u"), many)
            else:
                refused(self, InvalidMachine, Machine, {"u": many})
        refused(self, InvalidMachine, Machine, {}, named("a"), named("b"), named("a"))
        refused(self, InvalidMachine, Machine, {}, GET)
        refused(self, InvalidMachine, Machine, {"alu": 1}, GET)
        refused(self, InvalidMachine, Machine, {}, save=(1, (("u", 0),)))
        refused(self, InvalidMachine, Machine, {}, reload=(1, (("u", 0),)))
        # Equal shapes under two names are fine.
        self.assertEqual(Machine({}, named("a"), named("b")).names, ("a", "b"))

    def test_wrong_arguments(self):
        for value in odd_values():
            if value not in ({}, {"a": 1}):
                refused(self, InvalidMachine, Machine, value)
                refused(self, InvalidMachine, Machine.of, value, ())
            if value != {}:
                refused(self, InvalidMachine, SMALL.with_units, value)
            refused(self, InvalidMachine, Machine, {}, value)
            refused(self, InvalidMachine, Machine, {}, named("a"), value)
            if value != ():
                refused(self, InvalidMachine, Machine.of, {}, value)
            refused(self, InvalidMachine, Machine.of, {}, (value,))
            if value != (1, ()):
                refused(self, InvalidMachine, Machine, {}, save=value)
                refused(self, InvalidMachine, Machine, {}, reload=value)
                refused(self, InvalidMachine, Machine.of, {}, (), save=value)
                refused(self, InvalidMachine, Machine.of, {}, (), reload=value)
            if not is_number(value, 1, 3):
                refused(self, InvalidMachine, Machine, {"u": value})
            if not is_number(value, 1, 4):
                refused(self, InvalidMachine, Machine, {}, save=(value, ()))
            if value != ():
                refused(self, InvalidMachine, Machine, {}, reload=(1, value))
        for units in ({"U": 1}, {1: 1}, {None: 1}, {(): 1}, {"u": True}, [("u", 1)]):
            refused(self, InvalidMachine, Machine, units)
        refused(self, InvalidMachine, Machine.of, {}, [named("a")])

    def test_equality(self):
        same = Machine({"alu": 3, "mem": 1}, GET, PUT, save=(4, (("alu", 3),)), reload=(2, ()))
        self.assertTrue(SMALL == same)
        self.assertFalse(SMALL != same)
        for other in (
            SMALL.moved("put", 0),
            SMALL.with_cost("get", 2),
            SMALL.with_units({"mem": 1, "alu": 2}),
            SMALL.with_units({"mem": 1, "alu": 3, "x": 1}),
            SMALL.with_moves(save=(1, ())),
            SMALL.with_moves(reload=(1, ())),
            SMALL.without_pattern("put"),
        ):
            self.assertFalse(SMALL == other)
        for value in odd_values():
            self.assertEqual(SMALL == value, False)


class LinesTest(unittest.TestCase):
    def test_there_and_back(self):
        self.assertEqual(Machine.of_lines(CHIP.lines), CHIP)
        random = seeded(40)
        for _ in range(300):
            machine = draw_machine(random, random.randint(0, 8))
            units = list(machine.units)
            uses = tuple(sorted({(unit, random.randint(0, 3)) for unit in units}))
            machine = machine.with_moves(save=(random.randint(1, 4), uses), reload=(random.randint(1, 4), uses[:1]))
            self.assertEqual(Machine.of_lines(machine.lines), machine)
            self.assertEqual(Machine.of_lines(machine.lines).lines, machine.lines)
            mixed = [line for line in machine.lines if not line.startswith("pattern")]
            random.shuffle(mixed)
            for line in reversed([line for line in machine.lines if line.startswith("pattern")]):
                mixed.insert(random.randint(0, len(mixed)) if not any(x.startswith("pattern") for x in mixed) else 0, line)
            self.assertEqual(Machine.from_lines(*mixed), machine)

    def test_any_order(self):
        lines = list(CHIP_LINES)
        patterns, others = lines[4:], lines[:4]
        self.assertEqual(Machine.from_lines(*patterns, *others[::-1]), CHIP)
        self.assertEqual(Machine.from_lines(*patterns[:2], *others, *patterns[2:]), CHIP)
        self.assertFalse(Machine.from_lines(*others, *patterns[::-1]) == CHIP)
        self.assertEqual(Machine.from_lines("unit mem 1", "reload 2 mem 0").save, (1, ()))
        self.assertEqual(Machine.from_lines("save 3").reload, (1, ()))

    def test_second_texts(self):
        random = seeded(41)
        for _ in range(100):
            machine = draw_machine(random, 6)
            for (name, shape, ticks, cost, uses), line in zip(machine.patterns, machine.lines[len(machine.units) + 2 :]):
                words = ["pattern", name, str(ticks), str(cost)]
                for unit, offset in uses:
                    words += [unit, str(offset)]
                self.assertEqual(line, " ".join([*words, ":", write_shape(shape)]))

    def test_no_lines(self):
        good = "pattern p 1 0 : @"
        for line in (
            "",
            "unit",
            "unit u",
            "unit u 0",
            "unit u 4",
            "unit u 01",
            "unit u 1 ",
            " unit u 1",
            "unit  u 1",
            "unit u 1 1",
            "unit U 1",
            "unit abcdefghi 1",
            "Unit u 1",
            "unit u +1",
            "unit u -1",
            "unit u 1\n",
            "unit u 1.0",
            "save",
            "save 0",
            "save 5",
            "save 01",
            "save 1 u",
            "save 1 u 4",
            "save 1 u 00",
            "save 1 u 0 u 0",
            "save 1 v 0 u 0",
            "save 1 u 1 u 0",
            "save 1 u 0 v",
            "reload",
            "reload 5",
            "reload 1 :",
            "pattern",
            "pattern p",
            "pattern p 1",
            "pattern p 1 0",
            "pattern p 1 0 @",
            "pattern p 1 0 :",
            "pattern p 1 0 : ",
            "pattern p 1 0 : _",
            "pattern p 1 0 : @ @",
            "pattern p 1 0 : : @",
            "pattern p 1 0 u : @",
            "pattern p 1 0 u 0 u 0 : @",
            "pattern p 1 0 u 1 u 0 : @",
            "pattern p 1 0 v 0 u 0 : @",
            "pattern p 1 0 u 4 : @",
            "pattern p 0 0 : @",
            "pattern p 5 0 : @",
            "pattern p 1 21 : @",
            "pattern p 1 -1 : @",
            "pattern p 1 00 : @",
            "pattern p 01 0 : @",
            "pattern p 1  : @",
            "pattern P 1 0 : @",
            "pattern p 1 0: @",
            "pattern : 1 0 : @",
            "pattern p : 0 : @",
            "pattern p 1 : : @",
            "pattern p 1 0 : f ( f ( f ( f ( @ ) ) ) )",
            "pattern p 1 0 : f ( _ _ _ _ )",
            "pattern p 1 0 : = = _",
            "machine",
            "patterns p 1 0 : @",
            "saves p 1 0 : @",
            "p 1 0 : @",
        ):
            self.assertEqual(refused(self, ParseError, Machine.from_lines, line).line, 0, line)
            told = refused(self, ParseError, Machine.of_lines, ("unit u 1", "unit v 2", good, line, "nothing"))
            self.assertEqual(told.line, 3)
        for value in odd_values():
            self.assertEqual(refused(self, ParseError, Machine.from_lines, good, value).line, 1)
            if value != ():
                if isinstance(value, tuple):
                    self.assertEqual(refused(self, ParseError, Machine.of_lines, value).line, 0)
                else:
                    self.assertIsNone(refused(self, ParseError, Machine.of_lines, value).line)
        self.assertIsNone(refused(self, ParseError, Machine.of_lines, [good]).line)

    def test_lines_told_again(self):
        for line, other in (("unit u 1", "unit u 2"), ("unit u 1", "unit u 1"), ("save 1", "save 2"), ("reload 1", "reload 1")):
            told = refused(self, ParseError, Machine.from_lines, line, "pattern p 1 0 : @", other, other, "x")
            self.assertEqual(told.line, 2)
        self.assertEqual(refused(self, ParseError, Machine.from_lines, "save 1", "x", "save 1").line, 1)

    def test_a_pattern_may_have_the_name_of_a_unit(self):
        machine = Machine.from_lines("unit u 1", "pattern u 1 0 u 0 : u ( )", "unit save 1", "save 1 save 0")
        self.assertEqual((machine.names, machine.units), (("u",), {"save": 1, "u": 1}))

    def test_lines_of_no_machine(self):
        line = "pattern p 1 0 : @"
        refused(self, InvalidMachine, Machine.from_lines, line, line)
        refused(self, InvalidMachine, Machine.from_lines, "pattern p 1 0 u 0 : @")
        refused(self, InvalidMachine, Machine.from_lines, "save 1 u 0")
        refused(self, InvalidMachine, Machine.from_lines, *[f"unit {name} 1" for name in "abcde"])
        refused(self, InvalidMachine, Machine.from_lines, *[f"pattern {name} 1 0 : @" for name in "abcdefghi"])
        # A value that is no line comes first, wherever it stands.
        self.assertEqual(refused(self, ParseError, Machine.from_lines, line, line, "save 1 u 0", "x").line, 3)


class ChangedMachinesTest(unittest.TestCase):
    def setUp(self):
        self.before = (SMALL.lines, SMALL.patterns, SMALL.units, SMALL.save, SMALL.reload)

    def tearDown(self):
        self.assertEqual(self.before, (SMALL.lines, SMALL.patterns, SMALL.units, SMALL.save, SMALL.reload))

    def made(self, *patterns):
        return Machine(UNITS, *patterns, save=SMALL.save, reload=SMALL.reload)

    def test_with_pattern(self):
        new = named("new")
        self.assertEqual(SMALL.with_pattern(new), self.made(GET, PUT, new))
        self.assertEqual(SMALL.with_pattern(new, at=0), self.made(new, GET, PUT))
        self.assertEqual(SMALL.with_pattern(new, at=1), self.made(GET, new, PUT))
        self.assertEqual(SMALL.with_pattern(new, at=2), self.made(GET, PUT, new))
        for value in odd_values():
            refused(self, InvalidArgument, SMALL.with_pattern, value)
            refused(self, InvalidArgument, SMALL.with_pattern, value, at=-1)
            if value is not None and not is_number(value, 0, 2):
                refuses_number(self, value, SMALL.with_pattern, GET, at=value)
        refuses_number(self, 3, SMALL.with_pattern, new, at=3)
        refused(self, InvalidMachine, SMALL.with_pattern, GET)
        refused(self, InvalidMachine, SMALL.with_pattern, ("new", LOAD, 1, 0, (("zzz", 0),)))
        full = Machine({}, *[named(name) for name in "abcdefgh"])
        refused(self, InvalidMachine, full.with_pattern, named("i"))

    def test_without_and_moved(self):
        self.assertEqual(SMALL.without_pattern("get"), self.made(PUT))
        self.assertEqual(SMALL.without_pattern("get").without_pattern("put"), self.made())
        three = SMALL.with_pattern(named("new"))
        rows = [GET, PUT, named("new")]
        for at, name in enumerate(three.names):
            for to in range(3):
                moved = [row for row in rows if row[0] != name]
                moved.insert(to, rows[at])
                self.assertEqual(three.moved(name, to), self.made(*moved))
                self.assertEqual(three.moved(name, to).index_of(name), to)
        for value in odd_values():
            refuses_name(self, value, SMALL.without_pattern, value)
            refuses_name(self, value, SMALL.moved, value, -1)
            if not is_number(value, 0, 1):
                refuses_number(self, value, SMALL.moved, "get", value)
        refuses_number(self, 2, SMALL.moved, "get", 2)

    def test_with_cost(self):
        for cost in range(21):
            self.assertEqual(SMALL.with_cost("get", cost), self.made((*GET[:3], cost, GET[4]), PUT))
        for value in odd_values():
            refuses_name(self, value, SMALL.with_cost, value, -1)
            if not is_number(value, 0, 20):
                refuses_number(self, value, SMALL.with_cost, "get", value)
        refuses_number(self, 21, SMALL.with_cost, "get", 21)

    def test_with_units_and_moves(self):
        units = {"mem": 2, "x": 1, "alu": 1}
        self.assertEqual(SMALL.with_units(units), Machine(units, GET, PUT, save=SMALL.save, reload=SMALL.reload))
        refused(self, InvalidMachine, SMALL.with_units, {"alu": 1})
        refused(self, InvalidMachine, SMALL.with_units, {"mem": 1})
        refused(self, InvalidMachine, SMALL.with_units, {})
        self.assertEqual(SMALL.with_moves(), SMALL)
        self.assertEqual(SMALL.with_moves(save=None, reload=None), SMALL)
        self.assertEqual(SMALL.with_moves(save=(1, ())), Machine(UNITS, GET, PUT, reload=(2, ())))
        self.assertEqual(SMALL.with_moves(reload=(1, (("mem", 1),))).reload, (1, (("mem", 1),)))
        for value in odd_values():
            if value is not None and value != (1, ()):
                refused(self, InvalidMachine, SMALL.with_moves, save=value)
                refused(self, InvalidMachine, SMALL.with_moves, reload=value)
        refused(self, InvalidMachine, SMALL.with_moves, save=(1, (("zzz", 0),)))

    def test_renamed(self):
        names = {"get": "put", "put": "get"}
        self.assertEqual(SMALL.renamed(names), self.made(("put", *GET[1:]), ("get", *PUT[1:])))
        self.assertEqual(SMALL.renamed({"put": "b", "get": "a"}).names, ("a", "b"))
        self.assertEqual(SMALL.renamed({"put": "put", "get": "get"}), SMALL)
        for value in odd_values():
            refused(self, InvalidArgument, SMALL.renamed, value)
            if value != "a":
                refused(self, InvalidArgument, SMALL.renamed, {"get": value, "put": "b"})
        for bad in (
            {"get": "a"},
            {"get": "a", "put": "a"},
            {"get": "a", "put": "b", "new": "c"},
            {"get": "a", "new": "b"},
            {"get": "a", 1: "b"},
            {"get": "a", "put": ["b"]},
            [("get", "a"), ("put", "b")],
        ):
            refused(self, InvalidArgument, SMALL.renamed, bad)


if __name__ == "__main__":
    unittest.main()
