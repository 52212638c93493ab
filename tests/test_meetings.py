"""Pairs of rounds in which two places meet, held against all pairs of small rounds."""

import unittest
from itertools import islice, product
from math import gcd

from loopfoundry.errors import InvalidArgument
from loopfoundry.memory.meetings import Meetings, cell_of, is_meetings_paper, is_place
from tests.helpers import fits_digits, odd_values, refused, refuses_number, seeded

HUNDRED = 10**100 - 1
NEAR, FAR = 50, 100


def holds(pair, low, high, first, rounds):
    i, j = pair
    return (
        i >= first
        and j - i >= low
        and (high is None or j - i <= high)
        and (rounds is None or j < rounds)
    )


def brute(place, other, bounds, limit):
    """All pairs of rounds below the limit that meet within the bounds."""
    low, high, first, rounds = bounds
    found = []
    for i, j in product(range(limit), repeat=2):
        if place[0] * i + place[1] == other[0] * j + other[1] and holds((i, j), low, high, first, rounds):
            found.append((i, j))
    return found


def fast_brute(place, other, bounds, limit):
    """The same, by the cells of the later rounds."""
    rounds_of = {}
    for j in range(limit):
        rounds_of.setdefault(other[0] * j + other[1], []).append(j)
    found = []
    for i in range(limit):
        for j in rounds_of.get(place[0] * i + place[1], ()):
            if holds((i, j), *bounds):
                found.append((i, j))
    return found


def drawn(random, spread=4):
    while True:
        place = (random.randint(-spread, spread), random.randint(-7, 7))
        other = (random.randint(-spread, spread), random.randint(-7, 7))
        if place[0] or other[0]:
            break
    low, first = random.choice((0, 0, 1, 2, 5)), random.choice((0, 0, 0, 1, 4))
    high, rounds = random.choice((None, None, -1, 0, 1, 3, 8)), random.choice((None, None, 0, 1, 5, 9, 20))
    return place, other, (low, high, first, rounds)


def made(place, other, bounds):
    low, high, first, rounds = bounds
    return Meetings(place, other, low=low, high=high, first=first, rounds=rounds)


def fails_on_one_side(place, other, bounds, pair, window=300):
    """Whether a pair of the line has one bound that fails at it and before it, and one that fails behind it."""
    divisor = gcd(place[0], other[0])
    if place[0] * pair[0] + place[1] != other[0] * pair[1] + other[1]:
        return False
    step = (other[0] // divisor, place[0] // divisor)
    before = [(pair[0] - step[0] * k, pair[1] - step[1] * k) for k in range(window)]
    behind = [(pair[0] + step[0] * k, pair[1] + step[1] * k) for k in range(1, window)]
    low, high, first, rounds = bounds
    alone = [(low, None, -(10**9), None), (-(10**9), high, -(10**9), None), (-(10**9), None, first, None)]
    alone.append((-(10**9), None, -(10**9), rounds))
    sides = [[not any(holds(one, *bound) for one in side) for bound in alone] for side in (before, behind)]
    return any(sides[0]) and any(sides[1])


class PlacesTest(unittest.TestCase):
    def test_places(self):
        big = 10**30 - 1
        for place in ((0, 0), (-1, 5), (big, -big)):
            self.assertIs(is_place(place), True)
        for place in ((1,), (1, 2, 3), [1, 2], (True, 1), (1, False), (big + 1, 0), (0, -big - 1), (None, 0), ((1, 2),)):
            self.assertIs(is_place(place), False)
        for value in odd_values():
            self.assertIs(is_place(value), value == (0, 1) and type(value) is tuple)

    def test_cells(self):
        for step, offset, number in product(range(-3, 4), range(-3, 4), range(-3, 4)):
            self.assertEqual(cell_of((step, offset), number), step * number + offset)
        big = 10**30 - 1
        self.assertEqual(cell_of((big, -big), -big), -big * big - big)
        for value in odd_values():
            if value != (0, 1):
                refused(self, InvalidArgument, cell_of, value, 1)
                refused(self, InvalidArgument, cell_of, value, None)
            if not fits_digits(value):
                refuses_number(self, value, cell_of, (1, 1), value)


class DrawnMeetingsTest(unittest.TestCase):
    def check(self, place, other, bounds):
        met = made(place, other, bounds)
        near, found = [fast_brute(place, other, bounds, limit) for limit in (NEAR, FAR)]
        has_end = len(near) == len(found)
        self.assertEqual(bool(met), bool(found))
        self.assertEqual(met.amount, len(found) if has_end else None)
        by_later = sorted(found, key=lambda pair: (pair[1], pair[0]))
        if has_end:
            self.assertEqual(list(met.each()), by_later)
        else:
            # Pairs whose later round lies within the window may have an earlier one only up to it, too.
            self.assertEqual(list(islice(met.each(), 8)), by_later[:8])
        if not found:
            self.assertEqual((met.nearest, met.distance, met.soonest, met.latest), (None,) * 4)
            self.assertNotEqual(met.paper[0], "nearest")
        else:
            nearest = min(found, key=lambda pair: (pair[1] - pair[0], pair[1]))
            self.assertEqual(met.nearest, nearest)
            self.assertEqual(met.distance, nearest[1] - nearest[0])
            self.assertEqual(met.soonest, min(found, key=lambda pair: (pair[1], -pair[0])))
            self.assertEqual(met.paper, ("nearest", *nearest))
            grows = max([-1, *[i for i, _ in near]]) < max(i for i, _ in found)
            latest = min(found, key=lambda pair: (-pair[0], pair[1]))
            self.assertEqual(met.latest, None if grows else latest)
        self.assertIs(is_meetings_paper(met, met.paper), True)

    def test_drawn(self):
        random = seeded(7)
        for _ in range(3000):
            self.check(*drawn(random))

    def test_each_bound_on_and_off(self):
        for step, other in product((-2, -1, 0, 1, 2, 3), repeat=2):
            if step or other:
                for low, high, first, rounds in product((0, 2), (None, 0, 4), (0, 3), (None, 0, 8)):
                    for offset in (-3, 0, 5):
                        self.check((step, offset), (other, 1), (low, high, first, rounds))

    def test_the_two_ways_of_force_agree(self):
        random = seeded(8)
        for _ in range(60):
            place, other, bounds = drawn(random)
            self.assertEqual(brute(place, other, bounds, 30), fast_brute(place, other, bounds, 30))

    def test_members(self):
        random = seeded(9)
        for _ in range(150):
            place, other, bounds = drawn(random)
            met = made(place, other, bounds)
            found = set(fast_brute(place, other, bounds, 16))
            for pair in product(range(-3, 16), repeat=2):
                self.assertIs(pair in met, pair in found)
            for value in odd_values():
                if value != (0, 1):
                    self.assertIs(value in met, False)
            for value in ((False, False), (0, False), [0, 0], (0,), (0, 0, 0)):
                self.assertIs(value in Meetings((1, 0), (1, 0)), False)

    def test_peeled(self):
        random = seeded(10)
        for _ in range(300):
            place, other, bounds = drawn(random)
            met, by = made(place, other, bounds), random.randint(0, 6)
            left = met.peeled(by)
            found = {(i - by, j - by) for i, j in fast_brute(place, other, bounds, FAR) if i >= by}
            for pair in product(range(-2, 25), repeat=2):
                self.assertIs(pair in left, pair in found)
            low, high, first, rounds = bounds
            self.assertEqual((left.place, left.other), ((place[0], place[1] + place[0] * by), (other[0], other[1] + other[0] * by)))
            self.assertEqual((left.low, left.high, left.first), (low, high, max(0, first - by)))
            self.assertEqual(left.rounds, None if rounds is None else max(0, rounds - by))
            self.assertEqual(met.peeled(0), met)
            self.assertEqual(met.peeled(by).peeled(3), met.peeled(by + 3))

    def test_unrolled(self):
        random = seeded(11)
        for _ in range(400):
            place, other, bounds = drawn(random)
            met, copies = made(place, other, bounds), random.randint(1, 5)
            one, two = random.randrange(copies), random.randrange(copies)
            wide = met.unrolled(copies, one, two)
            for pair in product(range(-2, 12), repeat=2):
                told = (copies * pair[0] + one, copies * pair[1] + two)
                self.assertIs(pair in wide, told in met and min(pair) >= 0)
            low, high, first, rounds = bounds
            self.assertEqual(wide.place, (copies * place[0], place[1] + place[0] * one))
            self.assertEqual(wide.other, (copies * other[0], other[1] + other[0] * two))
            self.assertEqual(wide.low, -((two - one - low) // copies))
            self.assertEqual(wide.high, None if high is None else (high + one - two) // copies)
            self.assertEqual(wide.first, max(0, -((one - first) // copies)))
            self.assertEqual(wide.rounds, None if rounds is None else max(0, -((two - rounds) // copies)))
            self.assertEqual(met.unrolled(1, 0, 0), met)


class PapersTest(unittest.TestCase):
    def test_all_small_papers(self):
        random = seeded(12)
        forms = {"nearest": 0, "modulus": 0, "gap": 0}
        for _ in range(250):
            place, other, bounds = drawn(random)
            met = made(place, other, bounds)
            found = fast_brute(place, other, bounds, FAR)
            right = set()
            for k in range(-3, 9):
                divides = k >= 2 and place[0] % k == other[0] % k == 0 and (other[1] - place[1]) % k
                paper = ("modulus", k)
                self.assertIs(is_meetings_paper(met, paper), bool(divides))
                right.update([paper] if divides else [])
            for pair in product(range(-9, 10), repeat=2):
                nearest = bool(found) and pair == min(found, key=lambda pair: (pair[1] - pair[0], pair[1]))
                self.assertIs(is_meetings_paper(met, ("nearest", *pair)), nearest)
                gap = fails_on_one_side(place, other, bounds, pair)
                self.assertIs(is_meetings_paper(met, ("gap", *pair)), gap)
                right.update([("nearest", *pair)] if nearest else [])
                right.update([("gap", *pair)] if gap else [])
            right.add(met.paper)
            self.assertEqual({paper[0] for paper in right}, {met.paper[0]})
            forms[met.paper[0]] += 1
        self.assertGreater(min(forms.values()), 10)

    def test_no_papers(self):
        for met in (Meetings((1, 0), (1, 0)), Meetings((2, 0), (4, 1)), Meetings((1, 0), (1, 5), high=3)):
            for value in odd_values():
                self.assertIs(is_meetings_paper(met, value), value == met.paper)
            kind, *numbers = met.paper
            for value in (
                [kind, *numbers],
                (kind, *numbers, 0),
                (kind, *numbers[:-1]),
                (kind, tuple(numbers)),
                (kind, *numbers[:-1], None),
                (kind.upper(), *numbers),
            ):
                self.assertIs(is_meetings_paper(met, value), False)
        met = Meetings((1, 0), (1, -1))
        self.assertEqual(met.paper, ("nearest", 0, 1))
        self.assertIs(is_meetings_paper(met, ("nearest", 0, True)), False)
        self.assertIs(is_meetings_paper(met, ("nearest", False, 1)), False)
        gap = Meetings((1, 0), (1, 1), low=1)
        self.assertIs(is_meetings_paper(gap, ("gap", 1, 0)), True)
        self.assertIs(is_meetings_paper(gap, ("gap", True, False)), False)
        self.assertIs(is_meetings_paper(Meetings((2, 0), (2, 1)), ("modulus", 2)), True)
        for value in odd_values():
            if not isinstance(value, Meetings):
                refused(self, InvalidArgument, is_meetings_paper, value, met.paper)
                refused(self, InvalidArgument, is_meetings_paper, value, None)

    def test_long_papers(self):
        met = Meetings((HUNDRED, 0), (HUNDRED - 1, -(10**99)))
        self.assertEqual(met.paper[0], "nearest")
        i, j = met.nearest
        self.assertGreater(i, 10**98)
        self.assertEqual(HUNDRED * i, (HUNDRED - 1) * j - 10**99)
        self.assertIs(is_meetings_paper(met, ("nearest", i, j)), True)
        self.assertIs(is_meetings_paper(met, ("nearest", i + HUNDRED - 1, j + HUNDRED)), False)
        self.assertIn((i + (HUNDRED - 1) * 10**300, j + HUNDRED * 10**300), met)
        nothing = Meetings((HUNDRED, 0), (HUNDRED - 1, 5), low=7, high=6)
        self.assertEqual(nothing.paper[0], "gap")
        self.assertIs(is_meetings_paper(nothing, nothing.paper), True)
        even = Meetings((2 * 10**99, 0), (4 * 10**99, 7))
        self.assertIs(is_meetings_paper(even, ("modulus", 2 * 10**99)), True)
        self.assertIs(is_meetings_paper(even, ("modulus", 4 * 10**99)), False)
        self.assertIs(is_meetings_paper(even, ("modulus", 10**400)), False)
        # A step 0 is divided by everything.
        self.assertIs(is_meetings_paper(Meetings((0, 0), (6, 3)), ("modulus", 6)), True)
        self.assertIs(is_meetings_paper(Meetings((0, 0), (6, 3)), ("modulus", 3)), False)


class LongMeetingsTest(unittest.TestCase):
    def test_far_away(self):
        far = 10**99
        met = Meetings((1, 0), (2, -far))
        # The later round j has the cell 2 * j - far: the earlier round i is that cell.
        self.assertEqual(met.nearest, (far, far))
        self.assertEqual(met.soonest, (0, far // 2))
        self.assertEqual(met.amount, far // 2 + 1)
        self.assertEqual(met.latest, (far, far))
        self.assertEqual(Meetings((1, 0), (2, -far), rounds=far).nearest, (far - 2, far - 1))
        self.assertEqual(Meetings((1, 0), (2, -far), low=10**98).distance, 10**98)
        self.assertEqual(Meetings((1, 0), (2, -far), first=far).amount, 1)
        self.assertIs(bool(Meetings((1, 0), (2, -far), first=far + 1)), False)
        self.assertEqual(list(islice(met.each(), 3)), [(0, far // 2), (2, far // 2 + 1), (4, far // 2 + 2)])

    def test_lasting_and_standing(self):
        met = Meetings((3, 5), (3, 5 - 3 * 10**50))
        self.assertEqual((met.nearest, met.distance, met.amount), ((0, 10**50), 10**50, None))
        self.assertIsNone(met.latest)
        standing = Meetings((1, 0), (0, 10**60))
        self.assertEqual(standing.soonest, (10**60, 10**60))
        self.assertEqual(standing.latest, (10**60, 10**60))
        self.assertIsNone(standing.amount)
        self.assertEqual(list(islice(standing.each(), 2)), [(10**60, 10**60), (10**60, 10**60 + 1)])
        other = Meetings((0, 7), (1, 0))
        self.assertEqual((list(other.each()), other.soonest), ([(k, 7) for k in range(8)], (7, 7)))
        self.assertEqual(other.latest, (7, 7))
        opposite = Meetings((-1, 10**70), (1, 0))
        self.assertEqual((opposite.soonest, opposite.amount), ((10**70 // 2, 10**70 // 2), 10**70 // 2 + 1))

    def test_limits(self):
        self.assertEqual(Meetings((HUNDRED, -HUNDRED), (-HUNDRED, HUNDRED)).nearest, (1, 1))
        met = Meetings((1, 0), (1, 0), low=HUNDRED, high=HUNDRED, first=HUNDRED, rounds=HUNDRED)
        self.assertEqual((met.low, met.high, met.first, met.rounds), (HUNDRED,) * 4)
        self.assertIs(bool(met), False)
        self.assertEqual(Meetings((1, 0), (1, 0), high=-HUNDRED).high, -HUNDRED)
        for long in (HUNDRED + 1, -HUNDRED - 1, 10**119):
            refused(self, InvalidArgument, Meetings, (long, 0), (1, 0))
            refused(self, InvalidArgument, Meetings, (1, long), (1, 0))
            refused(self, InvalidArgument, Meetings, (1, 0), (long, 0))
            refused(self, InvalidArgument, Meetings, (1, 0), (1, long))
            for name in ("low", "high", "first", "rounds"):
                refuses_number(self, long, Meetings, (1, 0), (1, 0), **{name: long})
            refuses_number(self, long, Meetings((1, 0), (1, 0)).peeled, long)
        edge = Meetings((1, 0), (0, HUNDRED))
        self.assertEqual(edge.peeled(HUNDRED).place, (1, HUNDRED))
        refused(self, InvalidArgument, Meetings((1, 1), (0, 0)).peeled, HUNDRED)
        refused(self, InvalidArgument, Meetings((0, 0), (1, 1)).peeled, HUNDRED)
        refused(self, InvalidArgument, Meetings((2, 0), (0, 0)).peeled, HUNDRED)
        refused(self, InvalidArgument, Meetings((HUNDRED, 0), (1, 1)).unrolled, 2, 0, 0)
        refused(self, InvalidArgument, Meetings((1, 1), (HUNDRED, 1)).unrolled, 2, 0, 0)
        refused(self, InvalidArgument, Meetings((3, HUNDRED), (1, 1)).unrolled, 2, 1, 0)
        self.assertEqual(Meetings((3, HUNDRED), (1, 1)).unrolled(2, 0, 1).place, (6, HUNDRED))

    def test_endless(self):
        told = list(islice(Meetings((2, 0), (1, 0)).each(), 1000))
        self.assertEqual(told, [(k, 2 * k) for k in range(1000)])


class MeetingsTest(unittest.TestCase):
    def test_told(self):
        met = Meetings((1, 10), (2, 0), low=1, high=4, first=2, rounds=9)
        self.assertEqual((met.place, met.other, met.low, met.high, met.first, met.rounds), ((1, 10), (2, 0), 1, 4, 2, 9))
        self.assertEqual(str(met), "meetings of (1, 10) and (2, 0)")
        plain = Meetings((1, 10), (2, 0))
        self.assertEqual((plain.low, plain.high, plain.first, plain.rounds), (0, None, 0, None))
        self.assertEqual(str(Meetings((-1, 0), (0, -3))), "meetings of (-1, 0) and (0, -3)")

    def test_equality(self):
        bounds = {"low": 1, "high": 4, "first": 2, "rounds": 9}
        met = Meetings((1, 10), (2, 0), **bounds)
        self.assertTrue(met == Meetings((1, 10), (2, 0), **bounds))
        self.assertFalse(met == Meetings((2, 0), (1, 10), **bounds))
        self.assertFalse(met == Meetings((1, 11), (2, 0), **bounds))
        for name in bounds:
            self.assertFalse(met == Meetings((1, 10), (2, 0), **{**bounds, name: 3}))
        self.assertFalse(Meetings((1, 0), (1, 0)) == Meetings((1, 0), (1, 0), rounds=0))
        for value in odd_values():
            self.assertEqual(met == value, False)

    def test_false_things(self):
        # The first rounds in which they meet have not the least distance [3.5].
        met = Meetings((1, 10), (2, 0))
        self.assertNotEqual(met.soonest, met.nearest)
        self.assertNotEqual(Meetings((1, 10), (2, 0), rounds=7).distance, Meetings((1, 10), (2, 0), rounds=8).distance)
        self.assertIs(bool(Meetings((3, 0), (-2, 1))), False)

    def test_wrong_arguments(self):
        good = Meetings((1, 0), (1, 0))
        for value in odd_values():
            is_good = type(value) is tuple and value == (0, 1)
            if not is_good:
                refused(self, InvalidArgument, Meetings, value, (1, 0))
                refused(self, InvalidArgument, Meetings, (1, 0), value)
                refused(self, InvalidArgument, Meetings, (1, 0), value, low=-1)
            if type(value) is not int or value < 0:
                for name in ("low", "first"):
                    refuses_number(self, value, Meetings, (1, 0), (1, 0), **{name: value})
                if value is not None:
                    refuses_number(self, value, Meetings, (1, 0), (1, 0), rounds=value)
                refuses_number(self, value, Meetings, (0, 0), (0, 0), low=value, high="x", first="y", rounds="z")
                refuses_number(self, value, good.peeled, value)
            if type(value) is not int and value is not None:
                refuses_number(self, value, Meetings, (1, 0), (1, 0), high=value)
                refuses_number(self, value, Meetings, (1, 0), (1, 0), high=value, first=-1)
            if type(value) is not int or not 1 <= value <= 24:
                refuses_number(self, value, good.unrolled, value, "x", "y")
            if type(value) is not int or not 0 <= value <= 2:
                refuses_number(self, value, good.unrolled, 3, value, "y")
                refuses_number(self, value, good.unrolled, 3, 1, value)
        refused(self, InvalidArgument, Meetings, (0, 0), (0, 0))
        refused(self, InvalidArgument, Meetings, (0, 5), (0, 7), low=3)
        refuses_number(self, -1, Meetings, (0, 0), (0, 0), rounds=-1)
        refuses_number(self, 25, good.unrolled, 25, 0, 0)
        refuses_number(self, 1, good.unrolled, 1, 1, 0)
        self.assertEqual((good.unrolled(24, 23, 0).low, good.unrolled(24, 0, 23).low), (1, 0))
        self.assertEqual(good, Meetings((1, 0), (1, 0)))


if __name__ == "__main__":
    unittest.main()
