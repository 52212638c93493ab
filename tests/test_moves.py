"""Moves of points: what they keep in registers and in cells, tick by tick, and what they ask for, slot by slot."""

import unittest

from loopfoundry.errors import InvalidArgument, InvalidLives
from loopfoundry.few.moves import Moves
from loopfoundry.few.points import Points
from loopfoundry.files.lives import Lives
from tests.few_helpers import all_moves, draw_points
from tests.helpers import odd_values, refused, seeded

TIGHT = Points(3, {"a": (0, 1, 2), "b": (2, 3)})
WIDE = Points(4, {"a": (0, 3, 7), "b.0": (5, 9), "c": (6,)}, save=(1, (("u", 0),)), reload=(2, (("u", 1), ("v", 0))))
LAST = 10**30 - 2


def second_alive(moves):
    """The ticks in which each stay, and each saved value, must be alive, from what happens at the points."""
    points, stays, area = moves.points, {}, {}
    for key in points:
        ticks, first = points[key], 0
        for j in range(len(ticks)):
            if (key, j) in moves.reloads:
                first = j
                writing = moves.reloads[key, j] + points.reload[0]
                stays[f"{key}:{j}"] = set(range(writing, ticks[j] + 1))
            elif j == 0:
                stays[f"{key}:0"] = {ticks[0]}
            else:
                stays[f"{key}:{first}"] |= set(range(ticks[j - 1], ticks[j] + 1))
        if key in moves.saves:
            stays[f"{key}:0"] |= set(range(ticks[0], moves.saves[key] + 1))
            last = max(start for gap, start in moves.reloads.items() if gap[0] == key)
            area[key] = set(range(moves.saves[key] + points.save[0], last + 1))
    return stays, area


def ticks_of(rows):
    return {key: set(range(begin, end)) for key, (begin, end) in rows.items()}


class DrawnMovesTest(unittest.TestCase):
    def draw(self, number, many=150):
        random = seeded(number)
        for _ in range(many):
            points = draw_points(random)
            yield random, random.choice(all_moves(points))

    def test_stays_and_areas_tick_by_tick(self):
        lasting = 0
        for _, moves in self.draw(800, 400):
            stays, area = second_alive(moves)
            self.assertEqual((ticks_of(moves.stays), ticks_of(moves.area)), (stays, area))
            self.assertEqual((list(moves.stays), list(moves.area)), (sorted(stays), sorted(area)))
            Lives(moves.points.interval, moves.stays)
            lasting += len(area)
        self.assertGreater(lasting, 150)

    def test_units_slot_by_slot(self):
        told = {True: 0, False: 0}
        for _, moves in self.draw(801, 400):
            points, counts = moves.points, {}
            rows = [(points.save, start) for start in moves.saves.values()]
            rows += [(points.reload, start) for start in moves.reloads.values()]
            for slot in range(points.interval):
                for table, start in rows:
                    for unit, offset in table[1]:
                        if (start + offset - slot) % points.interval == 0:
                            counts[unit, slot] = counts.get((unit, slot), 0) + 1
            self.assertEqual((moves.asked, list(moves.asked)), (counts, sorted(counts)))
            fits = all(many <= points.spare.get(at, 0) for at, many in counts.items())
            told[fits] += 1
            self.assertIs(moves.fits, fits)
        self.assertGreater(min(told.values()), 40)

    def test_objects(self):
        for _, moves in self.draw(802):
            points, gone = moves.points, tuple(sorted(moves.reloads))
            self.assertEqual((moves.gone, list(moves.reloads), list(moves.saves)), (gone, list(gone), sorted(moves.saves)))
            self.assertEqual(sorted(moves.saves), sorted({key for key, _ in gone}))
            self.assertEqual(len(moves), len(moves.saves) + len(moves.reloads))
            self.assertEqual(str(moves), f"{len(moves)} moves of {len(moves.saves)} values")
            for gap in points.gaps:
                self.assertIs(gap in moves, gap in gone)
            self.assertEqual(moves, Moves(points, dict(reversed(moves.saves.items())), dict(reversed(moves.reloads.items()))))

    def test_kept_gaps(self):
        for _, moves in self.draw(803):
            for key, j in moves.points.gaps:
                if (key, j) not in moves:
                    refused(self, InvalidArgument, moves.kept, key, j)
                    continue
                reloads = {gap: start for gap, start in moves.reloads.items() if gap != (key, j)}
                saves = {text: start for text, start in moves.saves.items() if text in {gap[0] for gap in reloads}}
                kept = moves.kept(key, j)
                self.assertEqual((kept.points, kept.saves, kept.reloads), (moves.points, saves, reloads))
                self.assertIn((key, j), moves)


class EdgesTest(unittest.TestCase):
    def test_the_example(self):
        moves = Moves(TIGHT, {"a": 0}, {("a", 2): 1})
        self.assertEqual(moves.stays, {"a:0": (0, 2), "a:2": (2, 3), "b:0": (2, 4)})
        self.assertEqual((moves.area, len(moves)), ({"a": (1, 2)}, 2))
        self.assertEqual(moves.kept("a", 2), Moves(TIGHT, {}, {}))

    def test_late_and_early(self):
        one = Points(9, {"a": (0, 5)})
        for late in (0, 1):
            for early in (0, 1):
                moves = Moves(one, {"a": late}, {("a", 1): 4 - early})
                self.assertEqual(moves.stays, {"a:0": (0, 1 + late), "a:1": (5 - early, 6)})
                self.assertEqual(moves.area, {"a": (1 + late, 5 - early)})
        for save, reload in ((2, 4), (-1, 4), (0, 5), (0, 2), (0, None), (None, 4), (True, 4), (0, "4"), (0, 4.0)):
            refused(self, InvalidArgument, Moves, one, {"a": save}, {("a", 1): reload})

    def test_a_late_save_of_a_value_that_stays(self):
        kept = Points(9, {"a": (0, 1, 4)})
        self.assertEqual(Moves(kept, {"a": 1}, {("a", 2): 3}).stays, {"a:0": (0, 2), "a:2": (4, 5)})
        long = Points(9, {"a": (0, 3, 7)})
        self.assertEqual(Moves(long, {"a": 1}, {("a", 2): 6}).stays["a:0"], (0, 4))
        self.assertEqual(Moves(long, {"a": 1}, {("a", 1): 2, ("a", 2): 6}).stays["a:0"], (0, 2))

    def test_neighbouring_points(self):
        near = Points(5, {"a": (0, 3, 4)})
        self.assertEqual(near.gaps, (("a", 1), ("a", 2)))
        self.assertEqual(Moves(near, {"a": 0}, {("a", 2): 3}).stays, {"a:0": (0, 4), "a:2": (4, 5)})
        # A tick earlier it would write at the point ahead of the gap.
        refused(self, InvalidArgument, Moves, near, {"a": 0}, {("a", 2): 2})
        apart = Points(5, {"a": (0, 3, 5)})
        self.assertEqual(Moves(apart, {"a": 0}, {("a", 2): 3}).stays["a:2"], (4, 6))

    def test_a_reload_just_at_the_writing_of_the_save(self):
        points = Points(5, {"a": (0, 5)}, save=(2, ()), reload=(2, ()))
        self.assertEqual(Moves(points, {"a": 1}, {("a", 1): 3}).area, {"a": (3, 4)})
        self.assertEqual(Moves(points, {"a": 0}, {("a", 1): 2}).area, {"a": (2, 3)})
        refused(self, InvalidArgument, Moves, points, {"a": 1}, {("a", 1): 2})

    def test_far_ticks(self):
        far = Points(3, {"a": (1 - 10**30, LAST)}, save=(1, (("u", 3),)), spare={("u", 1): 1})
        moves = Moves(far, {"a": 2 - 10**30}, {("a", 1): LAST - 2})
        self.assertEqual(moves.stays, {"a:0": (1 - 10**30, 3 - 10**30), "a:1": (LAST - 1, LAST + 1)})
        self.assertEqual(moves.area, {"a": (3 - 10**30, LAST - 1)})
        self.assertEqual(moves.asked, {("u", (5 - 10**30) % 3): 1})
        self.assertIs(moves.fits, (5 - 10**30) % 3 == 1)

    def test_no_moves(self):
        none = Moves(WIDE, {}, {})
        self.assertEqual((none.gone, none.asked, none.area, len(none), none.fits), ((), {}, {}, 0, True))
        self.assertEqual(none.stays, {"a:0": (0, 8), "b.0:0": (5, 10), "c:0": (6, 7)})
        self.assertEqual(str(Moves(Points(1, {}), {}, {})), "0 moves of 0 values")

    def test_equal_moves(self):
        moves = Moves(WIDE, {"a": 0}, {("a", 1): 1})
        spare = Points(4, WIDE.rows, save=WIDE.save, reload=WIDE.reload, spare={("u", 0): 1})
        others = [Moves(WIDE, {}, {}), Moves(spare, {"a": 0}, {("a", 1): 1}), Moves(WIDE, {"a": 0}, {("a", 2): 5})]
        late = Moves(WIDE, {"a": 1}, {("a", 2): 5})
        self.assertNotEqual(late, Moves(WIDE, {"a": 0}, {("a", 2): 5}))
        others += [late, Moves(WIDE, {"a": 0}, {("a", 2): 4}), WIDE, None, 2]
        for value in others:
            self.assertNotEqual(moves, value)

    def test_nothing_gives_access_to_the_state(self):
        saves, reloads = {"a": 0}, {("a", 1): 1}
        moves = Moves(WIDE, saves, reloads)
        saves["b.0"] = 5
        reloads.clear()
        for row in (moves.saves, moves.reloads, moves.stays, moves.area, moves.asked):
            row.clear()
        self.assertEqual((moves.saves, moves.reloads), ({"a": 0}, {("a", 1): 1}))
        self.assertEqual(moves.stays, {"a:0": (0, 1), "a:1": (3, 8), "b.0:0": (5, 10), "c:0": (6, 7)})
        self.assertEqual((moves.area, moves.asked), ({"a": (1, 2)}, {("u", 0): 1, ("u", 2): 1, ("v", 1): 1}))


class WrongArgumentsTest(unittest.TestCase):
    def test_points(self):
        for value in odd_values():
            if not isinstance(value, Points):
                refused(self, InvalidLives, Moves, value, None, None)

    def test_saves_and_reloads(self):
        for value in odd_values():
            if value != {}:
                refused(self, InvalidArgument, Moves, WIDE, value, {})
                refused(self, InvalidArgument, Moves, WIDE, {}, value)
                refused(self, InvalidArgument, Moves, WIDE, value, {("a", 1): 1})
            if not isinstance(value, int) or value != 1:
                refused(self, InvalidArgument, Moves, WIDE, {"a": 0}, {("a", 1): value})
            if not (type(value) is int and value in (0, 1)):
                refused(self, InvalidArgument, Moves, WIDE, {"a": value}, {("a", 2): 5})
        good = {("a", 1): 1}
        for saves in ({}, {"a": 0, "b.0": 5}, {"b.0": 5}, {"a": 0, "c": 6}, {None: 0}, {("a", 1): 0}):
            refused(self, InvalidArgument, Moves, WIDE, saves, good)
        for gap in (("a", 0), ("a", 3), ("a", True), ("c", 1), ("x", 1), ("a", "1"), ("a",), "a", ("a", 1, 1), (None, 1)):
            refused(self, InvalidArgument, Moves, WIDE, {"a": 0}, {gap: 1})
            self.assertIs(gap in Moves(WIDE, {"a": 0}, good), False)

    def test_gaps(self):
        moves = Moves(WIDE, {"a": 0}, {("a", 1): 1})
        for value in odd_values():
            self.assertIs(value in moves, False)
            if value != "a":
                refused(self, InvalidArgument, moves.kept, value, 1)
            if type(value) is not int or value != 1:
                refused(self, InvalidArgument, moves.kept, "a", value)
        self.assertEqual(moves, Moves(WIDE, {"a": 0}, {("a", 1): 1}))


if __name__ == "__main__":
    unittest.main()
