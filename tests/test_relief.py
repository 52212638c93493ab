"""Reliefs and trees: by all choices of gaps, late saves and early reloads, by force, and by a plain judge."""

import unittest
from time import process_time

from loopfoundry.errors import InvalidArgument, InvalidLives, TooMany
from loopfoundry.few.moves import Moves
from loopfoundry.few.papers import (
    fewest_registers,
    is_least_paper,
    is_relief_paper,
    least_moves,
    least_paper,
    relief_paper,
    sure_lives,
)
from loopfoundry.few.points import Points
from loopfoundry.files.lives import Lives
from loopfoundry.files.turning import least_registers
from tests.few_helpers import SecondJudge, all_moves, draw_points, drawn_tree, forced_registers, same, shares
from tests.helpers import bent_values, odd_values, refused, refuses_number, seeded

TIGHT = Points(3, {"a": (0, 1, 2), "b": (2, 3)})
THREE = Points(3, {"a": (0, 3), "b": (1, 4), "c": (2, 5)})
READ = Points(3, {"a": (0, 3, 5), "b": (1,)}, reload=(1, (("u", 0),)), spare={("u", 2): 1})
SEVEN = Points(4, {"a": (0, 2, 4, 6, 8), "b": (1, 4, 7), "c": (3, 6)})
RELIEF = ("relief", {"a": 0}, {("a", 2): 1}, {"a:0": 0, "a:2": 1, "b:0": 0}, 1, {"a": 0})


def needs_of(points, force=False):
    """For all moves that fit: how many they are, and how many registers and cells they need."""
    count = forced_registers if force else lambda lives, interval: least_registers(Lives(interval, lives))
    rows = [moves for moves in all_moves(points) if moves.fits]
    return [(len(m), count(m.stays, points.interval), count(m.area, points.interval)) for m in rows]


class AllChoicesTest(unittest.TestCase):
    def check(self, points, needs, registers, cells, most):
        """Exactly one of a relief and a tree is there, as all choices say; the numbers are the least ones."""
        fine = [row for row in needs if row[1] <= registers and row[2] <= cells]
        there = [row for row in fine if most is None or row[0] <= most]
        paper = relief_paper(points, registers, cells=cells, most=most)
        self.assertEqual(paper[0], "relief" if there else "tree")
        self.assertIs(is_relief_paper(points, registers, paper, cells=cells, most=most), True)
        judge = SecondJudge(points, registers, cells, most)
        if there:
            self.check_relief(points, registers, cells, most, paper)
        else:
            self.assertTrue(judge.is_right(paper[1], {}))
        least = min((row[0] for row in fine), default=None)
        self.assertEqual(least_moves(points, registers, cells=cells), least)
        told = least_paper(points, registers, cells=cells)
        self.assertIs(is_least_paper(points, registers, told, cells=cells), True)
        self.assertEqual(told[0], "none" if least is None else "least")
        if least is not None:
            self.check_relief(points, registers, cells, least, told[1])
            self.assertEqual(len(told[1][1]) + len(told[1][2]), least)
            if least == 0:
                self.assertIsNone(told[2])
            else:
                self.assertTrue(SecondJudge(points, registers, cells, least - 1).is_right(told[2], {}))
        return paper[0]

    def check_relief(self, points, registers, cells, most, relief):
        _, saves, reloads, bases, used, places = relief
        moves = Moves(points, saves, reloads)
        self.assertTrue(moves.fits)
        self.assertTrue(most is None or len(saves) + len(reloads) <= most)
        self.assertEqual(sorted(bases), sorted(moves.stays))
        self.assertFalse(shares(moves.stays, registers, points.interval, bases))
        self.assertTrue(1 <= used <= cells if saves else used == 0)
        self.assertFalse(saves and shares(moves.area, used, points.interval, places))

    def test_drawn_points(self):
        random, kinds = seeded(810), {"relief": 0, "tree": 0}
        for _ in range(250):
            points = draw_points(random)
            needs = needs_of(points)
            for registers in range(1, 6):
                cells, most = random.choice((0, 1, 2, 24)), random.choice((None, 0, 1, 2, 3, 4, 5, 10**29))
                kinds[self.check(points, needs, registers, cells, most)] += 1
        self.assertGreater(min(kinds.values()), 300)

    def test_papers_for_many_gaps(self):
        # Few cells and few units: the trees split saves and reloads, and tell of the save area.
        random, kinds, words = seeded(814), {"relief": 0, "tree": 0}, set()
        for _ in range(350):
            interval = random.choice((1, 2, 2, 3, 4))
            begins = [random.randint(0, 4) for _ in range(random.choice((2, 3, 3, 4, 6)))]
            rows = {f"k{k}": (begin, begin + random.randint(2, 9)) for k, begin in enumerate(begins)}
            if len(rows) < 4:
                rows = {key: (*row, row[-1] + random.randint(1, 6)) for key, row in rows.items()}
            table = lambda: (1, (("u", random.randint(0, 3)),) if random.random() < 0.5 else ())
            units = {("u", slot): random.randint(0, 3) for slot in range(interval)}
            points = Points(interval, rows, save=table(), reload=table(), spare=units)
            if len(points.gaps) > 6:
                continue
            needs = needs_of(points) if len(points.gaps) < 5 else None
            for registers in range(2, 6):
                cells = random.randint(1, 5)
                paper = relief_paper(points, registers, cells=cells)
                kinds[paper[0]] += 1
                self.assertIs(is_relief_paper(points, registers, paper, cells=cells), True)
                if paper[0] == "tree":
                    text = str(paper)
                    words.update(word for word in ("'apart', 'cells'", "'alive', 'cells'", "'save'", "'reload'", "'unit'") if word in text)
                    self.assertTrue(SecondJudge(points, registers, cells, None).is_right(paper[1], {}))
                if needs is not None:
                    self.assertIs(paper[0] == "relief", any(row[1] <= registers and row[2] <= cells for row in needs))
        self.assertGreater(min(kinds.values()), 60)
        self.assertEqual(len(words), 5)

    def test_files_by_force(self):
        random = seeded(811)
        for _ in range(60):
            points = draw_points(random, most=2, gaps=2, width=3)
            needs = needs_of(points, force=True)
            for registers in range(1, 4):
                self.check(points, needs, registers, random.choice((0, 1, 2)), random.choice((None, 2, 4)))

    def test_the_fewest_registers(self):
        random = seeded(812)
        for _ in range(250):
            points = draw_points(random)
            cells, most = random.choice((0, 1, 2, 24)), random.choice((None, 0, 2, 3, 4, 6))
            rows = [row[1] for row in needs_of(points) if row[2] <= cells and (most is None or row[0] <= most)]
            fewest = max(1, min(rows))
            self.assertEqual(fewest_registers(points, cells=cells, most=most), fewest if fewest <= 24 else None)
        long = Points(1, {"a": (0, 24)}, save=(4, ()), reload=(4, ()))
        self.assertIsNone(fewest_registers(long, most=1))
        self.assertIsNone(fewest_registers(long, cells=0))
        self.assertEqual(fewest_registers(long), 2)
        self.assertEqual(fewest_registers(Points(1, {"a": (0, 23)}), most=1), 24)

    def test_what_does_not_grow(self):
        random = seeded(813)
        for _ in range(120):
            points = draw_points(random)

            def least(told, registers, cells):
                many = least_moves(told, registers, cells=cells)
                return 10**6 if many is None else many

            registers, cells = random.randint(1, 4), random.randint(0, 3)
            now = least(points, registers, cells)
            self.assertLessEqual(least(points, registers + 1, cells), now)
            self.assertLessEqual(least(points, registers, cells + 1), now)
            units = {(unit, slot): 3 for unit in "uv" for slot in range(points.interval)}
            more = Points(points.interval, points.rows, save=points.save, reload=points.reload, spare=units)
            self.assertLessEqual(least(more, registers, cells), now)
            self.assertEqual(least(points + random.randint(-99, 99), registers, cells), now)
            for key in points:
                if len(points[key]) > 1:
                    self.assertLessEqual(least(points.without_last(key), registers, cells), now)


class ExamplesTest(unittest.TestCase):
    def test_numbers_of_moves(self):
        self.assertEqual([least_moves(TIGHT, registers) for registers in (1, 2, 3)], [None, 2, 0])
        self.assertEqual([least_moves(THREE, registers) for registers in (1, 2, 3, 4)], [None, 6, 4, 0])
        self.assertEqual([fewest_registers(THREE, most=most) for most in (0, 3, 4, 5, 6, None)], [4, 4, 3, 3, 2, 2])
        self.assertEqual(least_moves(READ, 2), 2)
        fewer = Points(3, {"a": (0, 5), "b": (1,)}, reload=READ.reload, spare=READ.spare)
        self.assertIsNone(least_moves(fewer, 2))

    def test_papers(self):
        self.assertIs(is_relief_paper(TIGHT, 2, RELIEF), True)
        tree = ("split", ("gap", "a", 2), ("apart", "registers", ("a:0",)), ("moves",))
        self.assertIs(is_relief_paper(TIGHT, 2, ("tree", tree), most=1), True)
        self.assertIs(is_relief_paper(TIGHT, 2, ("tree", tree)), False)
        self.assertIs(is_relief_paper(TIGHT, 2, ("tree", tree), most=2), False)
        self.assertIs(is_least_paper(TIGHT, 2, ("least", RELIEF, tree)), True)
        self.assertIs(is_least_paper(TIGHT, 2, ("least", RELIEF, None)), False)
        self.assertIs(is_least_paper(TIGHT, 2, ("least", RELIEF, ("tree", tree))), False)
        self.assertIs(is_least_paper(TIGHT, 2, ("least", ("tree", tree), tree)), False)
        none = ("relief", {}, {}, {"a:0": 0, "b:0": 2}, 0, {})
        self.assertIs(is_relief_paper(TIGHT, 3, none, most=0, cells=0), True)
        self.assertIs(is_least_paper(TIGHT, 3, ("least", none, None)), True)
        self.assertIs(is_least_paper(TIGHT, 3, ("least", none, tree)), False)
        self.assertIs(is_least_paper(TIGHT, 1, ("none", ("alive", "registers", 2))), True)
        self.assertIs(is_least_paper(TIGHT, 2, ("none", ("alive", "registers", 2))), False)


class TreesByOtherHandsTest(unittest.TestCase):
    def test_drawn_trees(self):
        random, made, kinds, deep = seeded(820), 0, set(), 0
        while made < 120:
            points = draw_points(random)
            registers, cells, most = random.randint(1, 4), random.choice((0, 1, 24)), random.choice((None, None, 0, 2, 3))
            if relief_paper(points, registers, cells=cells, most=most)[0] == "relief":
                continue
            tree = drawn_tree(random, SecondJudge(points, registers, cells, most), {}, 7)
            if tree is None:
                continue
            made += 1
            kinds.update(word for word in ("moves", "order", "unit", "alive", "apart", "split", "cells") if f"'{word}'" in str(tree))
            deep += str(tree).count("split") > 3
            self.assertIs(is_relief_paper(points, registers, ("tree", tree), cells=cells, most=most), True)
        self.assertEqual(len(kinds), 7)
        self.assertGreater(deep, 10)

    def test_bent_trees(self):
        random, told = seeded(821), {True: 0, False: 0}
        while sum(told.values()) < 2500:
            points = draw_points(random)
            registers, cells, most = random.randint(1, 3), random.choice((0, 1, 24)), random.choice((None, 2, 3))
            paper = relief_paper(points, registers, cells=cells, most=most)
            if paper[0] == "relief":
                continue
            judge = SecondJudge(points, registers, cells, most)
            tree = drawn_tree(random, judge, {}, 5) or paper[1]
            others = [*points, *points.gaps, 0, 1, 2, -1, True, None, "registers", "cells", "u", "v", ("moves",), ()]
            others += [("gap", *gap) for gap in points.gaps] + [("save", key) for key in points] + [f"{key}:0" for key in points]
            for _ in range(12):
                bent = bent_values(random, tree, others)
                right = "[" not in str(bent) and judge.is_right(bent, {})
                told[right] += 1
                self.assertIs(is_relief_paper(points, registers, ("tree", bent), cells=cells, most=most), right, bent)
        self.assertGreater(told[True], 100)

    def test_all_leaves(self):
        random, right = seeded(822), 0
        for _ in range(300):
            points = draw_points(random)
            judge = SecondJudge(points, random.randint(1, 4), random.randint(0, 2), random.choice((None, 0, 1, 3)))
            told, splits = {}, []
            while judge.items(told) and random.random() < 0.85:
                item = random.choice(judge.items(told))
                told[item] = random.random() < 0.6
                splits.append(item)
            self.assertEqual([same(a, b) for a, b in zip(sure_lives(points, told), judge.sure(told))], [True, True])
            leaves = judge.leaves(told)
            fake = [("moves",), ("alive", "registers", 0), ("alive", "cells", 0), ("order", *(points.gaps or (("a", 1),))[0])]
            fake += [("unit", unit, slot) for unit in "uvw" for slot in (0, points.interval - 1, points.interval)]
            for leaf in leaves + fake:
                # Leaves are judged by a tree whose other ends are right by any means, or not at all.
                right += self.judged(points, judge, told, splits, leaf) == (leaf in leaves)
        self.assertGreater(right, 2000)

    def judged(self, points, judge, told, splits, leaf):
        from loopfoundry.few.judging import is_right_tree

        limits = (judge.registers, judge.cells, judge.most)
        self.assertIs(is_right_tree(points, limits, leaf, told), leaf in judge.leaves(told), (leaf, told))
        return is_right_tree(points, limits, leaf, told)

    def test_splits_that_are_not_needed(self):
        leaf = ("alive", "registers", 2)
        tree = ("split", ("gap", "a", 2), leaf, ("split", ("save", "a"), leaf, ("split", ("reload", "a", 2), leaf, leaf)))
        self.assertIs(is_relief_paper(TIGHT, 1, ("tree", tree)), True)
        for item in (("gap", "a", 1), ("gap", "b", 1), ("save", "a"), ("reload", "a", 2), ("gap", "a", 2, 0), ("gap", "a"), ["gap", "a", 2]):
            self.assertIs(is_relief_paper(TIGHT, 1, ("tree", ("split", item, leaf, leaf))), False)
        again = ("split", ("gap", "a", 2), leaf, ("split", ("gap", "a", 2), leaf, leaf))
        self.assertIs(is_relief_paper(TIGHT, 1, ("tree", again)), False)
        early = ("split", ("gap", "a", 2), ("split", ("save", "a"), leaf, leaf), leaf)
        self.assertIs(is_relief_paper(TIGHT, 1, ("tree", early)), False)

    def test_order(self):
        points = Points(3, {"a": (0, 1, 2)})
        both = ("order", "a", 2)
        for told in ({}, {("gap", "a", 2): False}, {("gap", "a", 2): True}):
            self.assertNotIn(both, SecondJudge(points, 1, 24, None).leaves(told))
        judge = self.judged
        told = {("gap", "a", 2): True, ("reload", "a", 2): True}
        self.assertTrue(judge(points, SecondJudge(points, 1, 24, None), told, [], both))
        far = Points(9, {"a": (0, 2, 5)}, save=(2, ()), reload=(3, ()))
        late = {("gap", "a", 2): True, ("save", "a"): True}
        self.assertTrue(judge(far, SecondJudge(far, 1, 24, None), late, [], both))
        self.assertFalse(judge(far, SecondJudge(far, 1, 24, None), {**late, ("save", "a"): False}, [], both))
        early = {("gap", "a", 2): True, ("reload", "a", 2): True}
        self.assertTrue(judge(far, SecondJudge(far, 1, 24, None), early, [], both))

    def test_order_of_a_first_gap(self):
        points = Points(9, {"a": (0, 5)}, save=(2, ()), reload=(3, ()))
        told = {("gap", "a", 1): True, ("save", "a"): True}
        self.assertIs(self.plain(points, told, ("order", "a", 1)), True)
        for leaf in (("order", "a", True), ("order", "a", 1, 0), ("order", "a"), ("order", "a", 2), ("order", "b", 1), ("orders", "a", 1)):
            self.assertIs(self.plain(points, told, leaf), False)

    def plain(self, points, told, leaf):
        from loopfoundry.few.judging import is_right_tree

        return is_right_tree(points, (1, 24, None), leaf, told)

    def test_units_of_any_kind(self):
        points = Points(3, {"a": (0, 9)}, save=(1, (("u", 0),)))
        told = {("gap", "a", 1): True, ("save", "a"): False}
        self.assertIs(self.plain(points, told, ("unit", "u", 0)), True)
        for leaf in (("unit", [], 0), ("unit", {}, 0), ("unit", None, 0), ("unit", ("u",), 0), ("unit", "u", False), ("unit", "u", None)):
            self.assertIs(self.plain(points, told, leaf), False)

    def test_seven_gaps(self):
        self.assertEqual(len(SEVEN.gaps), 7)
        for call in (relief_paper, least_moves, least_paper):
            self.assertEqual(refused(self, TooMany, call, SEVEN, 2).limit, 6)
        self.assertEqual(refused(self, TooMany, fewest_registers, SEVEN).limit, 6)
        moves = Moves(SEVEN, {"a": 0, "b": 1}, {("a", 1): 1, ("b", 2): 6})
        registers = least_registers(Lives(4, moves.stays))
        from loopfoundry.files.turning import file_paper

        bases, places = file_paper(Lives(4, moves.stays), registers)[1], file_paper(Lives(4, moves.area), 2)[1]
        relief = ("relief", moves.saves, moves.reloads, bases, 2, places)
        self.assertIs(is_relief_paper(SEVEN, registers, relief), True)
        self.assertIs(is_relief_paper(SEVEN, registers, relief, most=3), False)
        random = seeded(823)
        for registers, cells in ((1, 24), (2, 0)):
            tree = drawn_tree(random, SecondJudge(SEVEN, registers, cells, None), {}, 12)
            self.assertIsNotNone(tree)
            self.assertIs(is_relief_paper(SEVEN, registers, ("tree", tree), cells=cells), True)
            self.assertIs(is_least_paper(SEVEN, registers, ("none", tree), cells=cells), True)

    def test_a_long_tree_for_many_gaps(self):
        many = Points(1, {"a": tuple(range(0, 48, 1))}, save=(1, ()), reload=(1, ()))
        self.assertEqual(len(many.gaps), 46)
        tall = ("moves",)
        for j in range(2, 48):
            tall = ("split", ("gap", "a", j), ("alive", "registers", 0), tall)
        # All are alive in the slot 0, in any case.
        self.assertIs(is_relief_paper(many, 24, ("tree", tall), most=46), True)
        self.assertIs(is_relief_paper(many, 24, ("tree", tall), most=47), False)
        high = ("apart", "registers", ("a:0",))
        for j in range(2, 48):
            high = ("split", ("gap", "a", j), high, ("alive", "registers", 0))
        self.assertIs(is_relief_paper(many, 24, ("tree", high)), False)


class EdgesTest(unittest.TestCase):
    def test_no_points_and_no_gaps(self):
        none = Points(7, {})
        self.assertEqual(relief_paper(none, 1, cells=0, most=0), ("relief", {}, {}, {}, 0, {}))
        self.assertEqual((least_moves(none, 24), fewest_registers(none)), (0, 1))
        self.assertEqual(least_paper(none, 1), ("least", ("relief", {}, {}, {}, 0, {}), None))
        self.assertEqual(sure_lives(none, {}), ({}, {}))
        short = Points(2, {"a": (0, 1), "b": (0, 1)})
        self.assertEqual((short.gaps, least_moves(short, 2), least_moves(short, 1)), ((), 0, None))
        self.assertEqual(least_paper(short, 1)[1][0], "alive")

    def test_six_gaps_of_all_kinds(self):
        uses = (("u", 0), ("v", 1))
        shapes = [{f"k{k}": (k, k + 7) for k in range(6)}, {"a": tuple(range(0, 21, 3))}, {"a": (0, 4, 8, 12), "b": (1, 5, 9, 13)}]
        shapes.append({**{f"m{k}": (0, 2 * k + 2) for k in range(6)}, **{f"f{k}": (k, k + 1) for k in range(18)}})
        for rows in shapes:
            for interval in (1, 3, 32):
                for many in (0, 1, 3):
                    units = {(unit, slot): many for unit in "uv" for slot in range(interval)}
                    points = Points(interval, rows, save=(1, uses), reload=(1, uses[:1]), spare=units)
                    self.assertEqual(len(points.gaps), 6)
                    begin = process_time()
                    for registers in (1, 2, 3, 4, 6, 9, 24):
                        for cells in (0, 1, 24):
                            paper = relief_paper(points, registers, cells=cells, most=7)
                            self.assertIs(is_relief_paper(points, registers, paper, cells=cells, most=7), True)
                    least_paper(points, 3)
                    fewest_registers(points)
                    self.assertLess(process_time() - begin, 30)

    def test_far_ticks(self):
        last = 10**30 - 2
        far = Points(3, {"a": (1 - 10**30, last - 9, last), "b": (5,)})
        self.assertIsNone(fewest_registers(far, cells=24))
        self.assertEqual(relief_paper(far, 24)[0], "tree")
        near = Points(3, {"a": (last - 9, last), "b": (last - 5,)})
        self.assertEqual(fewest_registers(near), 2)
        moved = Points(3, {"a": (0, 9), "b": (4,)})
        self.assertEqual(fewest_registers(near, cells=0), forced_registers({"a": (0, 10), "b": (4, 5)}, 3))
        for registers in range(1, 6):
            self.assertEqual(least_moves(near, registers), least_moves(moved, registers))
        paper = relief_paper(near, 2)
        self.assertIs(is_relief_paper(near, 2, paper), True)

    def test_units_that_are_never_spare(self):
        points = Points(3, {"a": (0, 9)}, save=(1, (("u", 0),)))
        self.assertEqual([least_moves(points, registers) for registers in (3, 4)], [None, 0])
        tree = ("split", ("save", "a"), ("unit", "u", 0), ("unit", "u", 1))
        tree = ("split", ("gap", "a", 1), ("alive", "registers", 0), tree)
        self.assertIs(is_relief_paper(points, 3, ("tree", tree)), True)
        for leaf in (("unit", "u", 2), ("unit", "u", True), ("unit", "u", 4), ("unit", "x", 0), ("unit", None, 0)):
            bent = ("split", ("gap", "a", 1), ("alive", "registers", 0), ("split", ("save", "a"), ("unit", "u", 0), leaf))
            self.assertIs(is_relief_paper(points, 3, ("tree", bent)), False)

    def test_a_save_late_and_a_reload_early(self):
        for slot, saves, reloads in ((0, {"a": 0}, None), (1, {"a": 1}, None)):
            points = Points(3, {"a": (0, 9)}, save=(1, (("u", 0),)), spare={("u", slot): 1})
            self.assertEqual(relief_paper(points, 2)[1], saves)
        for slot, start in ((2, 8), (1, 7)):
            points = Points(3, {"a": (0, 9)}, reload=(1, (("u", 0),)), spare={("u", slot): 1})
            self.assertEqual(relief_paper(points, 2)[2], {("a", 1): start})
        points = Points(3, {"a": (0, 9)}, reload=(1, (("u", 0),)), spare={("u", 0): 1})
        self.assertEqual(relief_paper(points, 2)[0], "tree")

    def test_just_as_long_as_both_tables(self):
        points = Points(9, {"a": (0, 5)}, save=(2, (("u", 0),)), reload=(3, (("v", 0),)), spare={("u", 1): 1, ("v", 2): 1})
        # Only a late save has its unit; then the reload would start a tick ahead of its writing.
        self.assertEqual(relief_paper(points, 1)[0], "relief")
        tight = Points(3, {"a": (0, 5)}, save=(2, (("u", 0),)), reload=(3, (("v", 0),)), spare={("u", 1): 1, ("v", 2): 1})
        self.assertEqual(relief_paper(tight, 1)[0], "tree")
        self.assertIn("'order'", str(relief_paper(tight, 1)))

    def test_cells(self):
        points = Points(2, {"a": (0, 8)})
        # At once and in time the value is in the cells for seven ticks, late or early for less.
        self.assertEqual([least_moves(points, 2, cells=cells) for cells in (0, 2, 3, 4)], [None, None, 2, 2])
        self.assertNotEqual(relief_paper(points, 2, cells=3)[1:3], ({"a": 0}, {("a", 1): 7}))
        four = ("relief", {"a": 0}, {("a", 1): 7}, {"a:0": 0, "a:1": 1}, 4, {"a": 0})
        self.assertIs(is_relief_paper(points, 2, four, cells=4), True)
        self.assertIs(is_relief_paper(points, 2, four, cells=3), False)
        self.assertIs(is_relief_paper(points, 2, (*four[:4], 3, four[5])), False)
        wide = (*four[:4], 9, four[5])
        self.assertIs(is_relief_paper(points, 2, wide), True)
        self.assertIs(is_relief_paper(points, 2, wide, cells=8), False)


class BentReliefsTest(unittest.TestCase):
    def test_moves_that_do_not_fit(self):
        for spare, right in (({("u", 0): 1}, True), ({("u", 0): 0}, False), ({("u", 1): 3}, False), (None, False)):
            points = Points(3, {"a": (0, 9)}, save=(1, (("u", 0),)), spare=spare)
            relief = ("relief", {"a": 0}, {("a", 1): 8}, {"a:0": 0, "a:1": 0}, 3, {"a": 0})
            self.assertIs(is_relief_paper(points, 2, relief), right)

    def test_least_papers(self):
        random, told = seeded(824), {True: 0, False: 0}
        while min(told.values()) < 25:
            points, registers = draw_points(random), random.randint(1, 3)
            paper = least_paper(points, registers)
            if paper[0] == "none":
                for bent in ((*paper, 0), ("nones", paper[1]), ("least", paper[1], None), ("tree", paper[1]), ("none",)):
                    self.assertIs(is_least_paper(points, registers, bent), False)
                continue
            _, relief, tree = paper
            many = len(relief[1]) + len(relief[2])
            for bent in ((*paper, 0), ("none", *paper[1:]), ("lease", *paper[1:]), ("least", relief), ("least", tree, relief)):
                self.assertIs(is_least_paper(points, registers, bent), False)
            for fewer in range(2, many + 1):
                other = relief_paper(points, registers, most=many - fewer)[1]
                right = SecondJudge(points, registers, 24, many - 1).is_right(other, {})
                told[right] += 1
                self.assertIs(is_least_paper(points, registers, ("least", relief, other)), right)

    def test_bent_entries(self):
        _, saves, reloads, bases, cells, places = RELIEF
        bent = [("relief", {}, reloads, bases, cells, places), ("relief", saves, {}, bases, cells, places)]
        bent += [("relief", saves, reloads, {**bases, "b:0": 1}, cells, places), ("relief", saves, reloads, bases, 0, places)]
        bent += [("relief", saves, reloads, bases, 25, places), ("relief", saves, reloads, bases, True, places)]
        bent += [("relief", saves, reloads, bases, 1, {}), ("relief", saves, reloads, bases, 1, {"a": 1})]
        bent += [("relief", saves, reloads, bases, 1, {"a": False}), ("relief", saves, reloads, bases, 1, {"b": 0})]
        bent += [("relief", saves, reloads, {"a:0": 0, "a:2": 1}, 1, places), ("relief", saves, reloads, {**bases, "c:0": 0}, 1, places)]
        bent += [("relief", saves, reloads, {**bases, "a:2": 2}, 1, places), ("relief", saves, {("a", 2): 0}, bases, 1, places)]
        bent += [("relief", saves, {("a", 2): True}, bases, 1, places), ("relief", {"a": False}, reloads, bases, 1, places)]
        bent += [RELIEF[:5], (*RELIEF, ()), list(RELIEF), ("relieF", *RELIEF[1:]), ("tree", *RELIEF[1:]), ("tree",)]
        bent += [("relief", saves, {("a", True): 1}, bases, 1, places), ("tree", RELIEF)]
        for value in [*odd_values(), *bent]:
            self.assertIs(is_relief_paper(TIGHT, 2, value), False, value)
            self.assertIs(is_least_paper(TIGHT, 2, value), False)
            self.assertIs(is_relief_paper(TIGHT, 2, ("tree", value)), False)
            self.assertIs(is_least_paper(TIGHT, 2, ("none", value)), False)
            self.assertIs(is_least_paper(TIGHT, 2, ("least", value, ("moves",))), False)
            self.assertIs(is_least_paper(TIGHT, 2, ("least", RELIEF, value)), False)
        self.assertIs(is_relief_paper(TIGHT, 2, RELIEF, most=2, cells=1), True)
        self.assertIs(is_relief_paper(TIGHT, 2, RELIEF, most=1), False)
        self.assertIs(is_relief_paper(TIGHT, 2, RELIEF, cells=0), False)
        self.assertIs(is_relief_paper(TIGHT, 1, RELIEF), False)
        two = ("relief", saves, reloads, bases, 2, {"a": 1})
        self.assertIs(is_relief_paper(TIGHT, 2, two), True)
        self.assertIs(is_relief_paper(TIGHT, 3, ("relief", {}, {}, {"a:0": 0, "b:0": 2}, 1, {})), False)

    def test_bent_leaves(self):
        points = Points(2, {"a": (0, 8)})
        good = ("split", ("gap", "a", 1), ("alive", "registers", 0), ("alive", "cells", 0))
        self.assertIs(is_relief_paper(points, 2, ("tree", good), cells=2), True)
        for leaf in (("alive", "cells", 1), ("alive", "cells", 2), ("alive", "cells", -1), ("alive", "cells", False), ("alive", "cells", None)):
            self.assertIs(is_relief_paper(points, 2, ("tree", (*good[:3], leaf)), cells=2), False)
        for leaf in (("alive", "cell", 0), ("alive", 0), ("apart", "cells", ("a",)), ("moves",), ("moves", 0), ("alive", None, 0)):
            self.assertIs(is_relief_paper(points, 2, ("tree", (*good[:3], leaf)), cells=2), False)
        for leaf in (("order", "a", 1), ("order", "b", 1), ("order", None, 1), ("order", "a", True), ("order", [], 1), {}):
            self.assertIs(is_relief_paper(points, 2, ("tree", (*good[:3], leaf)), cells=2), False)
        self.assertIs(is_relief_paper(points, 2, ("tree", (*good, ())), cells=2), False)
        self.assertIs(is_relief_paper(points, 2, ("tree", good, ()), cells=2), False)
        self.assertIs(is_relief_paper(points, 2, ("tree", list(good)), cells=2), False)


class SureLivesTest(unittest.TestCase):
    def test_the_example(self):
        stays = {"a:0": (0, 1), "a:1": (3, 4), "a:2": (5, 6), "b:0": (1, 2)}
        self.assertEqual(sure_lives(READ, {("gap", "a", 2): True}), (stays, {"a": (2, 4)}))

    def test_by_its_words(self):
        points = Points(9, {"a": (0, 2, 3, 7)}, save=(1, ()), reload=(1, ()))
        gap, save, reload = ("gap", "a", 2), ("save", "a"), ("reload", "a", 2)
        self.assertEqual(sure_lives(points, {})[0], {"a:0": (0, 1), "a:1": (2, 3), "a:2": (3, 4), "a:3": (7, 8)})
        self.assertEqual(sure_lives(points, {gap: False})[0], {"a:0": (0, 1), "a:1": (2, 4), "a:3": (7, 8)})
        self.assertEqual(sure_lives(points, {gap: True})[1], {})
        self.assertEqual(sure_lives(points, {gap: True, reload: False})[1], {"a": (2, 3)})
        self.assertEqual(sure_lives(points, {gap: True, save: False})[1], {"a": (1, 2)})
        self.assertEqual(sure_lives(points, {gap: True, save: False, reload: False})[1], {"a": (1, 3)})
        told = {gap: True, save: True, reload: True}
        self.assertEqual(sure_lives(points, told)[0], {"a:0": (0, 2), "a:1": (2, 3), "a:2": (2, 4), "a:3": (7, 8)})
        self.assertEqual(sure_lives(points, {**told, ("gap", "a", 3): True})[1], {"a": (2, 6)})
        self.assertEqual(list(sure_lives(points, {})[0]), sorted(sure_lives(points, {})[0]))

    def test_what_cannot_be_told(self):
        good = {("gap", "a", 2): True}
        self.assertEqual(len(sure_lives(TIGHT, good)), 2)
        bad = [{("save", "a"): True}, {("reload", "a", 2): True}, {**good, ("save", "b"): True}, {**good, ("reload", "b", 1): False}]
        bad += [{("gap", "a", 2): False, ("save", "a"): True}, {("gap", "a", 2): False, ("reload", "a", 2): False}]
        bad += [{("gap", "a", 1): True}, {("gap", "a", 2): 1}, {("gap", "a", 2): None}, {("gap", "a", True): True}]
        bad += [{("gap", "a"): True}, {"gap": True}, {("save", "a", 2): True, **good}, {("move", "a", 2): True}, {None: True}]
        for value in [*odd_values(), *bad]:
            if value != {}:
                refused(self, InvalidArgument, sure_lives, TIGHT, value)
        for value in odd_values():
            if not isinstance(value, Points):
                refused(self, InvalidLives, sure_lives, value, None)
            if value is not True and value is not False:
                refused(self, InvalidArgument, sure_lives, TIGHT, {("gap", "a", 2): value})


class WrongArgumentsTest(unittest.TestCase):
    def test_points_and_numbers(self):
        calls = [relief_paper, least_moves, least_paper]
        judges = [is_relief_paper, is_least_paper]
        for value in odd_values():
            is_number = type(value) is int
            if not isinstance(value, Points):
                for call in calls:
                    refused(self, InvalidLives, call, value, 0, cells=-1)
                for call in judges:
                    refused(self, InvalidLives, call, value, 0, None, cells=-1)
                refused(self, InvalidLives, fewest_registers, value, cells=-1, most=-1)
            if not is_number or not 1 <= value <= 24:
                for call in calls:
                    refuses_number(self, value, call, SEVEN, value, cells=25)
                for call in judges:
                    refuses_number(self, value, call, SEVEN, value, None, cells=25)
            if not is_number or not 0 <= value <= 24:
                for call in calls:
                    refuses_number(self, value, call, SEVEN, 2, cells=value)
                for call in judges:
                    refuses_number(self, value, call, SEVEN, 2, None, cells=value)
                refuses_number(self, value, fewest_registers, SEVEN, cells=value, most=-1)
            if value is not None and (not is_number or not 0 <= value < 10**30):
                refuses_number(self, value, relief_paper, SEVEN, 2, most=value)
                refuses_number(self, value, is_relief_paper, SEVEN, 2, None, most=value)
                refuses_number(self, value, fewest_registers, SEVEN, most=value)
        refuses_number(self, 25, relief_paper, TIGHT, 25)
        refuses_number(self, 25, relief_paper, TIGHT, 1, cells=25, most=-1)

    def test_nothing_is_changed(self):
        told = {("gap", "a", 2): True, ("save", "b"): False}
        refused(self, InvalidArgument, sure_lives, TIGHT, told)
        self.assertEqual(told, {("gap", "a", 2): True, ("save", "b"): False})
        before = (TIGHT.rows, TIGHT.gaps, TIGHT.spare)
        for registers in (1, 2, 3):
            relief_paper(TIGHT, registers)
        self.assertEqual((TIGHT.rows, TIGHT.gaps, TIGHT.spare), before)
        self.assertEqual(relief_paper(TIGHT, 2), relief_paper(TIGHT, 2))


if __name__ == "__main__":
    unittest.main()
