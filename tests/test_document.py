"""The examples of the document, with the results that it shows."""

import doctest
import unittest

from loopfoundry.base import numbers
from loopfoundry.code import checks, kernels
from loopfoundry.code import making as code_making
from loopfoundry.covers import covers, orders
from loopfoundry.few import making, moves, papers, points
from loopfoundry.files import lives, turning
from loopfoundry.jobs import jobs, rewrites, runs
from loopfoundry.jobs import orders as job_orders
from loopfoundry.machine import machines, shapes
from loopfoundry.memory import flows, meetings
from loopfoundry.search import frontier, ways
from loopfoundry.source import bodies, trees
from loopfoundry.wide import bodies as wide_bodies
from loopfoundry.wide import free, peels
from loopfoundry.worlds import order, sums

NUMBERS = """
>>> [slot_of(-3, 4), rounded_up(-1, 6, 4), rounded_up(3, 0, 3), is_name("sum"), is_name("A")]
[1, 2, 3, True, False]
"""

BODIES = """
>>> [DOT.names, DOT.reads, DOT.operations, str(DOT)]
[('mul', 'sum'), (('sum', 'mul', 0), ('sum', 'sum', 1)), ('mul', 'mul.0', 'mul.1', 'sum'), 'body of 2 statements, 4 nodes']
>>> PAIRS.run(3, lambda operator, values: (operator, *values), lambda name, round: None, lambda array, cell: cell)
({}, {('x', 0): ('f', -4), ('x', 1): ('f', -2), ('x', 2): ('f', ('f', -4))})
>>> [PAIRS.shifted("x", 5).stores, PAIRS.scaled("x", -1).loads, PAIRS.tree("put.0"), levels(("op", "f", ("load", "x", 1, 0)))]
[(('put', 'x', 1, 5),), (('put.0.0', 'x', -2, 4),), ('op', 'f', ('load', 'x', 2, -4)), 2]
"""

MEETINGS = """
>>> met = Meetings((1, 10), (2, 0))
>>> [list(met.each()), met.nearest, met.soonest, met.amount, Meetings((1, 10), (2, 0), rounds=7).distance, Meetings((1, 10), (2, 0), low=1).paper]
[[(0, 5), (2, 6), (4, 7), (6, 8), (8, 9), (10, 10)], (10, 10), (0, 5), 6, 4, ('nearest', 8, 9)]
>>> [list(met.peeled(4).each()), list(met.unrolled(2, 0, 1).each()), Meetings((2, 0), (1, 10)).amount, Meetings((4, 0), (6, 3)).paper]
[[(0, 3), (2, 4), (4, 5), (6, 6)], [(0, 2), (2, 3), (4, 4)], None, ('modulus', 2)]
>>> is_meetings_paper(Meetings((3, 0), (-2, 1)), ("gap", 1, -1))
True
"""

FLOWS = """
>>> [flows(PAIRS), flows(PAIRS, rounds=3), settled(PAIRS)]
[(('anti', 'put', 'put.0.0', 0), ('flow', 'put', 'put.0.0', 1)), (('flow', 'put', 'put.0.0', 2),), 5]
>>> [found_by(PAIRS, "put.0.0", 3), found_by(PAIRS, "put.0.0", 5), writer_of(PAIRS, "x", 6)]
[('put', 2), None, ('put', 6)]
"""

MACHINES = """
>>> [str(CHIP), CHIP.names, CHIP.pattern("mulld"), CHIP.index_of("get"), CHIP.copies("alu"), CHIP.reload, CHIP.with_cost("get", 3).lines[7]]
['machine of 6 patterns, 2 units', ('add', 'mul', 'mulld', 'get', 'f', 'put'), ('mulld', ('op', 'mul', ('load',), ('hole',)), 3, 2, (('alu', 1), ('mem', 0))), 3, 1, (2, (('mem', 0),)), 'pattern get 2 3 mem 0 : @']
>>> [holes(read_shape("= add ( _ @ )")), loads(read_shape("= add ( _ @ )")), fits(read_shape("mul ( @ _ )"), DOT["mul"][2]), fits(read_shape("= _"), PAIRS["put"])]
[((0, 0),), ((0, 1),), True, True]
"""

COVERS = """
>>> [fitting(DOT, CHIP)["mul"], wants(DOT, CHIP, "mul", "mulld"), count_covers(DOT, CHIP), covers_by_cost(DOT, CHIP), least_table(DOT, CHIP)]
[('mul', 'mulld'), ('mul.1',), 2, {4: 1, 5: 1}, {'mul': 3, 'mul.0': 1, 'mul.1': 1, 'sum': 1}]
>>> [cheapest(DOT, CHIP), cover_row(DOT, CHIP, cover_at(DOT, CHIP, 0)), number_of(DOT, CHIP, cheapest(DOT, CHIP))]
[{'mul': 'mulld', 'mul.1': 'get', 'sum': 'add'}, (1, 3, 3, 0), 1]
>>> [open_nodes(DOT, CHIP, {"mul": "mul"}), open_cost(DOT, CHIP, {"mul": "mul"}), margin(DOT, CHIP, "mul.0", "get"), pattern_margin(DOT, CHIP, "get"), behind(DOT, CHIP), hurried(DOT, CHIP.without_pattern("add"))]
[('mul.0', 'mul.1', 'sum'), 5, 1, 0, 1, ('stuck', 'sum')]
>>> [is_cost_paper(DOT, CHIP, 3, ("beyond", least_table(DOT, CHIP))), is_table(DOT, CHIP, {}), cover_paper(PAIRS, CHIP), cheapest(PAIRS, CHIP.without_pattern("put"))]
[True, False, ('covered', {'put': 'put', 'put.0': 'f', 'put.0.0': 'get'}, {'put': 3, 'put.0': 2, 'put.0.0': 1}), None]
"""

JOBS = """
>>> ONES = Machine.from_lines("pattern get 2 1 : @", "pattern neg 1 1 : neg ( _ )", "pattern put 1 1 : = _")
>>> COPY = Body(("store", "put", "x", 1, 0, ("load", "x", 1, 0)), ("set", "y", ("op", "neg", ("load", "x", 1, 0))))
>>> job = Job(COPY, ONES, {"put": "put", "put.0": "get", "y": "neg", "y.0": "get"})
>>> [job.arcs, job.operands("y"), job.loaded("y.0"), job.above("y.0"), str(job)]
[(('put', 'y.0', 1, 0), ('put.0', 'put', 0, 0), ('put.0', 'put', 2, 0), ('y.0', 'y', 2, 0)), (('y.0', 0),), ('y.0',), 'y', 'job of 4 operations, 4 arcs']
>>> least_wrong(job, 2, {"put": 2, "put.0": 0, "y": 2, "y.0": 0})
(1, (0, 'y.0', 0, 0, None))
>>> FAR = Job(Body(("store", "put", "x", 1, 0, ("op", "neg", ("load", "x", 2, -10 ** 17)))), ONES, {"put": "put", "put.0": "neg", "put.0.0": "get"})
>>> [FAR.arcs, least_wrong(FAR, 1, {"put": 3, "put.0": 2, "put.0.0": 0})]
[(('put', 'put.0.0', 1, 1), ('put.0', 'put', 1, 0), ('put.0.0', 'put', 0, 0), ('put.0.0', 'put.0', 2, 0)), (99999999999999998, (99999999999999997, 'put.0.0', 99999999999999997, 0, None))]
>>> [due(FAR, "put.0.0", 10 ** 17 - 1), due(FAR, "put.0.0", 10 ** 17), bound(COPY), bound(DOT)]
[(('put', 99999999999999998),), (None,), (('put', 'y'),), (('mul', 'sum'),)]
>>> short = named(DOT, "mul.1", "b")
>>> [short.names, short["mul"], named_operation(DOT, "mul.1", "b", "mul.1"), inlined(short, "b") == DOT, inlined(DOT, "mul").names]
[('b', 'mul', 'sum'), ('set', 'mul', ('op', 'mul', ('load', 'a', 1, 0), ('at', 'b', 0))), 'b', True, ('sum',)]
"""

WAYS = """
>>> [frontier(DOT, CHIP), frontier(PAIRS, CHIP), least_cost(DOT, CHIP, 1), least_interval(DOT, CHIP, most=3), has_way(PAIRS, CHIP, 3)]
[((2, 4),), ((4, 3),), None, None, False]
>>> is_way_paper(DOT, CHIP, 2, ("way", {"mul": "mulld", "mul.1": "get", "sum": "add"}, {"mul": 3, "mul.1": 0, "sum": 7}), most=4)
True
>>> two = ("slot", "mul.0", (("slot", "mul.1", (("unit", "mem", 0),)),))
>>> one = ("pattern", "mul.0", (("get", ("pattern", "mul.1", (("get", two),))),))
>>> other = ("pattern", "mul.1", (("get", ("slot", "mul", (("slot", "mul.1", (("unit", "mem", 0),)),))),))
>>> [is_way_paper(DOT, CHIP, 1, ("bar", ("pattern", "mul", (("mul", one), ("mulld", other))))), is_way_paper(DOT, CHIP, 2, ("bar", ("cost",)), most=3)]
[True, True]
>>> is_way_paper(PAIRS, CHIP, 3, ("bar", ("pattern", "put", (("put", ("pattern", "put.0", (("f", ("pattern", "put.0.0", (("get", ("circuit", ("put", "put.0.0", "put.0"))),))),))),))))
True
"""

LIVES = """
>>> pair = Lives(2, {"a": (1, 3), "b": (2, 4)})
>>> [pair.most, pair.alive(1), pair.alive(1, "a"), pair.across(2), pair.is_full(2, "a"), pair.is_full(3, "a"), pair.is_apart("a")]
[2, 2, 1, 1, True, False, True]
>>> [least_registers(pair), file_paper(pair, 2)[0], is_file_paper(pair, 2, ("apart", ("b",))), file_paper(pair, 1)[0]]
[3, 'apart', True, 'alive']
>>> [is_bases(pair, 3, {"a": 0, "b": 0}), held(pair, 3, {"a": 0, "b": 2}, 2), list(pair.each_alive(1)), str(pair & ("b",))]
[False, (('a', 0), None, ('b', 0)), [('a', 0), ('b', -1)], 'lives of 1 keys, interval 2']
>>> [least_registers(Lives(1, {"a": (0, 2)})), least_registers(Lives(3, {"a": (0, 2), "b": (1, 4)})), least_registers(Lives(3, {"a": (0, 3), "b": (0, 3)}))]
[2, 3, 2]
>>> least_registers(Lives(2, {"a": (1, 3 + 2 * 10 ** 20), "b": (2, 4)}))
100000000000000000003
"""

FEW = """
>>> TIGHT, THREE = Points(3, {"a": (0, 1, 2), "b": (2, 3)}), Points(3, {"a": (0, 3), "b": (1, 4), "c": (2, 5)})
>>> [TIGHT.gaps, [least_moves(TIGHT, registers) for registers in (1, 2, 3)], [least_moves(THREE, registers) for registers in (1, 2, 3, 4)], fewest_registers(THREE, most=5)]
[(('a', 2),), [None, 2, 0], [None, 6, 4, 0], 3]
>>> moves = Moves(TIGHT, {"a": 0}, {("a", 2): 1})
>>> [moves.stays, moves.area, len(moves), moves.kept("a", 2).stays]
[{'a:0': (0, 2), 'a:2': (2, 3), 'b:0': (2, 4)}, {'a': (1, 2)}, 2, {'a:0': (0, 3), 'b:0': (2, 4)}]
>>> is_relief_paper(TIGHT, 2, ("relief", moves.saves, moves.reloads, {"a:0": 0, "a:2": 1, "b:0": 0}, 1, {"a": 0}))
True
>>> is_relief_paper(TIGHT, 2, ("tree", ("split", ("gap", "a", 2), ("apart", "registers", ("a:0",)), ("moves",))), most=1)
True
>>> READ = Points(3, {"a": (0, 3, 5), "b": (1,)}, reload=(1, (("u", 0),)), spare={("u", 2): 1})
>>> [least_moves(READ, 2), least_moves(Points(3, {"a": (0, 5), "b": (1,)}, reload=READ.reload, spare=READ.spare), 2), sure_lives(READ, {("gap", "a", 2): True})]
[2, None, ({'a:0': (0, 1), 'a:1': (3, 4), 'a:2': (5, 6), 'b:0': (1, 2)}, {'a': (2, 4)})]
"""

KERNELS = """
>>> JOB = Job(DOT, CHIP, {"mul": "mul", "mul.0": "get", "mul.1": "get", "sum": "add"})
>>> KERNEL = kernel_of(JOB, 2, {"mul": 3, "mul.0": 0, "mul.1": 1, "sum": 6}, 4, {"mul": 0, "mul.0": 0, "mul.1": 1, "sum": 0})
>>> KERNEL.rows
((('op', 'mul.0', 0, 0, (), (0,)), ('op', 'sum', 3, 1, (0, 1), ())), (('op', 'mul', 1, 3, (3, 0), ()), ('op', 'mul.1', 0, 1, (), (0,))))
>>> [str(KERNEL), KERNEL.asked, KERNEL.guards(2, 1), list(KERNEL.timeline(1)), KERNEL.duration(2), does_right(KERNEL), enough_rounds(KERNEL)]
['kernel of 2 rows, 4 stages, 4 registers, 0 cells', {('alu', 0): 1, ('alu', 1): 1, ('mem', 0): 1, ('mem', 1): 1}, (0, 1), [(0, 'mul.0', 0), (1, 'mul.1', 0), (3, 'mul', 0), (6, 'sum', 0)], 9, True, 14]
>>> HURRY = kernel_of(Job(PAIRS, CHIP, {"put": "put", "put.0": "f", "put.0.0": "get"}), 3, {"put": 3, "put.0": 2, "put.0.0": 0}, 1, {"put.0": 0, "put.0.0": 0})
>>> [long_readings(HURRY), least_wrong_run(HURRY), findings(HURRY, 4, "put.0.0", 3), findings(HURRY, 4, "put.0.0", 2)]
[{('put', 0): ('put.0', 0), ('put.0', 0): ('put.0.0', 0)}, (4, (9, 'put.0.0', 3, 0, None)), (None,), (('put', 0),)]
>>> FAR = Body(("store", "put", "x", 1, 0, ("op", "f", ("load", "x", 2, -10 ** 20))))
>>> least_wrong_run(kernel_of(Job(FAR, CHIP, HURRY.job.cover), 3, HURRY.starts, 1, {"put.0": 0, "put.0.0": 0}))[0] == 10 ** 20
True
>>> KEEP = Job(Body(("set", "a", ("load", "y", 1, 0)), ("store", "put", "z", 1, 0, ("op", "f", ("at", "a", 2)))), CHIP, {"a": "get", "put": "put", "put.0": "f"})
>>> SMALL = kernel_with(KEEP, 4, {"a": 0, "put": 1, "put.0": 0}, 1, ("relief", {"a": 3}, {("a", 1): 6}, {"a:0": 0, "a:1": 0, "put.0:0": 0}, 1, {"a": 0}))
>>> SMALL.rows
((('op', 'a', 0, 0, (), (0,)), ('op', 'put.0', 0, 0, (0,), ())), (('op', 'put', 0, None, (0,), (0,)),), (('reload', 0, 0),), (('save', 0, 0),))
>>> [long_readings(SMALL), does_right(SMALL), enough_rounds(SMALL), SMALL.played(2, lambda operator, values: values, lambda name, round: round, lambda array, cell: cell)]
[{('put', 0): ('put.0', 0), ('put.0', 0): ('a', 2)}, True, 13, ({'a': (0, 1), 'put.0': ((-2,), (-1,))}, {('z', 0): (-2,), ('z', 1): (-1,)})]
"""

WIDE = """
>>> ALL = Machine.from_lines("pattern all 3 1 : = f ( @ )")
>>> DOUBLE = Body(("store", "put", "x", 2, 0, ("op", "f", ("load", "x", 1, 0))))
>>> double, pairs = Job(DOUBLE, ALL, {"put": "all"}), Job(PAIRS, ALL, {"put": "all"})
>>> [unrolled(DOUBLE, 2).stores, unrolled(DOT, 2)["bb"], peeled(DOUBLE, 3).stores]
[(('aa', 'x', 4, 0), ('ab', 'x', 4, 2)), ('set', 'bb', ('op', 'add', ('at', 'ba', 0), ('at', 'ab', 0))), (('put', 'x', 2, 6),)]
>>> [wide_arcs(double), wide_arcs(double, copies=2), [free_interval(double, copies=u) for u in (1, 2, 3, 4)]]
[(('put', 'put', 3, 1),), (('aa', 'aa', 3, 1), ('ab', 'aa', 3, 1)), [3, 3, 6, 3]]
>>> [ratio(double, first=2), lasting_ratio(double), ratio_paper(double), is_peel_paper(double, 2, ("peel", 2, {"put": 0}, ("put",)))]
[(3, 2), (0, 1), ('endless', ('put',)), True]
>>> [peel_paper(pairs, 1)[:2], ratio_paper(pairs)[:3], meeting_kind((1, 0), (2, -4)), meeting_kind((2, 1), (4, 0))]
[('peel', 3), ('peel', 3, None), 'growing', 'none']
"""

WORLDS = """
>>> BACK = Body(("set", "y", ("op", "f", ("load", "a", 1, 0), ("at", "z", 1))), ("store", "s", "a", 1, 0, ("at", "z", 2)), ("set", "z", ("op", "g", ("load", "a", 1, 0))))
>>> QUICK = Machine.from_lines("unit p 1", "pattern f 1 1 p 0 : f ( @ _ )", "pattern g 1 1 : g ( @ )", "pattern put 1 1 p 0 : = _")
>>> SLOW = Machine.from_lines("unit p 1", "pattern f 1 1 p 0 : f ( @ _ )", "pattern g 1 1 : g ( @ )", "pattern put 2 1 p 0 : = _")
>>> [least_interval(BACK, QUICK), least_interval(BACK, SLOW), is_no_harder(BACK, QUICK, BACK, SLOW), is_no_harder(BACK, SLOW, BACK, QUICK), is_no_harder(BACK.without("y"), QUICK, BACK, QUICK)]
[3, 2, False, False, True]
>>> tree = ("pattern", "y", (("f", ("slot", "y", (("unit", "p", 1),))), ("h", ("cost",))))
>>> [trimmed(BACK, QUICK, 2, tree), opened(2, tree)[2][0][1], joined(2, ("cost",), ("cost",)), units_used(BACK, QUICK)]
[('pattern', 'y', (('f', ('slot', 'y', (('unit', 'p', 1),))),)), ('slot', 'y', (('unit', 'p', 1), ('unit', 'p', 0))), ('cost',), ('p',)]
>>> [are_side_by_side(BACK, DOT), are_side_by_side(DOT, PAIRS), together(DOT, PAIRS).names]
[False, True, ('mul', 'sum', 'put')]
"""

SETUP = """
>>> DOT = Body(("set", "mul", ("op", "mul", ("load", "a", 1, 0), ("load", "b", 1, 0))), ("set", "sum", ("op", "add", ("at", "sum", 1), ("at", "mul", 0))))
>>> PAIRS = Body(("store", "put", "x", 1, 0, ("op", "f", ("load", "x", 2, -4))))
>>> CHIP = Machine.from_lines("unit alu 1", "unit mem 1", "save 1 mem 0", "reload 2 mem 0", "pattern add 1 1 alu 0 : add ( _ _ )", "pattern mul 2 2 alu 0 : mul ( _ _ )", "pattern mulld 3 2 alu 1 mem 0 : mul ( @ _ )", "pattern get 2 1 mem 0 : @", "pattern f 1 1 alu 0 : f ( _ )", "pattern put 1 1 mem 0 : = _")
"""


class DocumentTest(unittest.TestCase):
    def check(self, text, *modules):
        names = {"Body": bodies.Body, "Machine": machines.Machine}
        for module in modules:
            names.update({name: worth for name, worth in vars(module).items() if not name.startswith("_")})
        example = doctest.DocTestParser().get_doctest(SETUP + text, names, "document", None, 0)
        runner = doctest.DocTestRunner(verbose=False)
        told = []
        runner.run(example, out=told.append)
        self.assertEqual(runner.failures, 0, "".join(told))
        self.assertGreater(runner.tries, 3)

    def test_numbers(self):
        self.check(NUMBERS, numbers)

    def test_bodies(self):
        self.check(BODIES, trees, bodies)

    def test_meetings(self):
        self.check(MEETINGS, meetings)

    def test_flows(self):
        self.check(FLOWS, flows)

    def test_machines(self):
        self.check(MACHINES, machines, shapes)

    def test_covers(self):
        self.check(COVERS, covers, orders)

    def test_jobs(self):
        self.check(JOBS, job_orders, jobs, rewrites, runs)

    def test_ways(self):
        self.check(WAYS, ways, frontier)

    def test_lives(self):
        self.check(LIVES, lives, turning)

    def test_few_registers(self):
        self.check(FEW, points, making, moves, papers)

    def test_kernels(self):
        self.check(KERNELS, jobs, kernels, code_making, checks)

    def test_wide_bodies(self):
        self.check(WIDE, jobs, wide_bodies, free, peels)

    def test_worlds(self):
        self.check(WORLDS, ways, frontier, order, sums)


if __name__ == "__main__":
    unittest.main()
