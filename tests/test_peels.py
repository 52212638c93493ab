"""How many rounds must be peeled: by trying each number of rounds, and by the cells of places far away."""

import unittest
from fractions import Fraction

from loopfoundry.errors import InvalidJob, TooMany
from loopfoundry.jobs.jobs import Job
from loopfoundry.machine.machines import Machine
from loopfoundry.source.bodies import Body
from loopfoundry.wide.free import free_interval, free_paper, lasting_arcs, lasting_ratio, ratio, wide_arcs
from loopfoundry.wide.peels import is_peel_paper, is_ratio_paper, peel_paper, ratio_paper
from tests.helpers import PAIRS, odd_values, refused, refuses_number, seeded
from tests.test_free import ONES as PLAIN
from tests.test_free import circle, small_jobs
from tests.wide_helpers import all_rings, asked, do_fit

ALL = Machine.from_lines("pattern all 3 1 : = f ( @ )")
DOUBLE = Body(("store", "put", "x", 2, 0, ("op", "f", ("load", "x", 1, 0))))
JOB, PAIRS_JOB = Job(DOUBLE, ALL, {"put": "all"}), Job(PAIRS, ALL, {"put": "all"})
ONES = Machine.from_lines("pattern put 4 1 : = f ( @ _ )", "pattern k 1 1 : k ( _ )", "pattern f 1 1 : f ( @ @ )", "pattern g 1 1 : = _")


def simple(step, offset, load_step, load_offset=0):
    return Job(Body(("store", "put", "x", step, offset, ("op", "f", ("load", "x", load_step, load_offset)))), ALL, {"put": "all"})


def lagging(random):
    """A job with rings through a load that stands ahead of a store, not lasting, and through a flow, perhaps lasting."""
    step, load_step = random.choice(((1, 2), (2, 1), (3, 2), (1, -1), (1, 0), (2, -3)))
    spread = random.choice((9, 10**20))
    last = ("load", "x", random.choice((step, step, load_step)), random.choice((random.randint(-9, 9), random.randint(-spread, spread))))
    tree = ("op", "f", ("load", "x", load_step, random.randint(-spread, spread)), last)
    body = Body(("set", "a", tree), ("store", "s", "x", step, random.randint(-9, 9), ("op", "h")))
    machine = Machine.from_lines("pattern f 2 1 : f ( @ _ )", "pattern get 4 1 : @", "pattern put 1 1 : = _", "pattern h 1 1 : h ( )")
    return Job(body, machine, {"a": "f", "a.1": "get", "s": "put", "s.0": "h"})


def mixed(random):
    """A job with a ring of lasting arcs, and a store and a load that are not lasting."""
    ring = ("op", "k", ("op", "k", ("at", "a", random.randint(1, 3))))
    step, load_step = random.choice(((1, 2), (2, 1), (3, 2), (2, 3), (1, -1), (3, 0), (4, 3)))
    place = (step, random.randint(-9, 9))
    store = ("store", "s", "x", *place, ("op", "f", ("load", "x", load_step, random.randint(-9, 9)), ("at", "a", 0)))
    return Job(Body(("set", "a", ring), store), ONES, {"a": "k", "a.0": "k", "s": "put"})


def through_memory(step, offset, load_step):
    """A job with one ring, of four operations, through a load and a store."""
    store = ("store", "s", "x", step, offset, ("op", "k", ("at", "b", 0)))
    body = Body(("set", "a", ("load", "x", load_step, 0)), ("set", "b", ("op", "k", ("at", "a", 0))), store)
    return Job(body, PLAIN, {"a": "get", "b": "k", "s": "put", "s.0": "k"})


def from_first(ring, text):
    """The same ring from this operation on."""
    place = ring.index(text)
    return ring[place:] + ring[:place]


class EachNumberOfRoundsTest(unittest.TestCase):
    def check_peel(self, job, interval, copies, limit=40):
        paper = peel_paper(job, interval, copies=copies)
        self.assertIs(is_peel_paper(job, interval, paper, copies=copies), True)
        lasting = lasting_arcs(job, copies=copies)
        if paper[0] == "never":
            self.assertGreater(asked(lasting, paper[1], interval, 1), 0)
            self.assertGreater(free_interval(job, copies=copies, first=10**20), interval)
            return -1
        _, rounds, starts, ring = paper
        self.assertTrue(do_fit(wide_arcs(job, copies=copies, first=rounds), interval, starts))
        if rounds:
            self.assertGreater(asked(wide_arcs(job, copies=copies, first=rounds - 1), ring, interval, 1), 0)
        else:
            self.assertIsNone(ring)
        for first in range(min(rounds, limit)):
            self.assertGreater(free_interval(job, copies=copies, first=first), interval)
        self.assertLessEqual(free_interval(job, copies=copies, first=rounds), interval)
        return rounds

    def test_peels(self):
        told = {}
        for random, job in small_jobs(890, 250, limit=6, spread=7):
            for _ in range(2):
                rounds = self.check_peel(job, random.randint(1, 4), random.randint(1, 3))
                told[min(rounds, 2)] = told.get(min(rounds, 2), 0) + 1
        self.assertGreater(min(told[k] for k in (-1, 0, 1, 2)), 10)

    def test_peels_of_mixed_jobs(self):
        random, told = seeded(891), set()
        for _ in range(150):
            told.add(self.check_peel(mixed(random), random.randint(1, 6), random.randint(1, 4)))
        self.assertGreater(len(told), 5)

    def test_loads_ahead_of_stores(self):
        random, told = seeded(898), {}
        for _ in range(600):
            job = lagging(random)
            rounds = self.check_peel(job, random.randint(1, 3), random.randint(1, 3))
            self.check_ratio(job)
            kind = "far" if rounds > 10**9 else min(rounds, 1)
            told[kind] = told.get(kind, 0) + 1
        self.assertGreater(min(told[k] for k in (0, 1, "far")), 5)

    def check_ratio(self, job):
        paper = ratio_paper(job)
        self.assertIs(is_ratio_paper(job, paper), True)
        p, q = lasting_ratio(job)
        if paper[0] == "endless":
            self.assertEqual((p, q), (0, 1))
            self.assertGreater(Fraction(*ratio(job, first=10**9)), 0)
            return -1
        _, rounds, ring, heights, before = paper
        arcs = wide_arcs(job, first=rounds)
        self.assertEqual(ratio(job, first=rounds), (p, q))
        self.assertTrue(all(heights[t] - heights[s] >= delay * q - p * gap for s, t, delay, gap in arcs))
        self.assertEqual(list(heights), list(job.operations))
        if p:
            self.assertEqual(asked(lasting_arcs(job), ring, p, q), 0)
        else:
            self.assertIsNone(ring)
        if rounds:
            self.assertGreater(asked(wide_arcs(job, first=rounds - 1), before, p, q), 0)
        else:
            self.assertIsNone(before)
        for first in range(min(rounds, 40)):
            self.assertGreater(Fraction(*ratio(job, first=first)), Fraction(p, q))
        return (p > 0, rounds > 0)

    def test_ratios(self):
        told = {}
        for _, job in small_jobs(892, 300, limit=6, spread=7):
            kind = self.check_ratio(job)
            told[kind] = told.get(kind, 0) + 1
        self.assertGreater(min(told[k] for k in (-1, (False, False), (False, True), (True, False))), 5)

    def test_ratios_of_mixed_jobs(self):
        random, told = seeded(893), {}
        for _ in range(250):
            kind = self.check_ratio(mixed(random))
            told[kind] = told.get(kind, 0) + 1
        self.assertGreater(min(told[True, True], told[True, False]), 10)

    def test_the_known_ratio_tells_all_copies(self):
        random, tried = seeded(894), 0
        for _ in range(150):
            job = mixed(random)
            paper = ratio_paper(job)
            p, q = lasting_ratio(job)
            if paper[0] == "endless" or p == 0:
                continue
            tried += 1
            for copies in range(1, 6):
                self.assertEqual(free_interval(job, copies=copies, first=paper[1]), max(1, -(-copies * p // q)))
        self.assertGreater(tried, 50)

    def test_enough_for_one_copy_is_not_enough_for_all(self):
        self.assertEqual(lasting_ratio(JOB), (0, 1))
        rounds = [peel_paper(JOB, 1, copies=copies)[1] for copies in range(1, 17)]
        self.assertEqual(rounds[0], 3)
        self.assertGreater(rounds[1], rounds[0])
        for copies, many in enumerate(rounds, start=1):
            self.assertEqual([free_interval(JOB, copies=copies, first=first) > 1 for first in (many - 1, many)], [True, False])


class FarTest(unittest.TestCase):
    def test_by_the_cells(self):
        # The store of round i and the load of round j meet where step * i + offset is load_step * j.
        random = seeded(896)
        for _ in range(200):
            step, load_step = random.choice((1, 2, 3, 4)), random.choice((-3, -2, -1, 0, 1, 2, 3, 4, 5))
            if step == load_step:
                continue
            offset = random.choice((1, -1)) * random.randint(10**28, 10**29)
            job, copies, interval = simple(step, offset, load_step), random.randint(1, 16), random.randint(1, 4)
            paper = peel_paper(job, interval, copies=copies)
            self.assertIs(is_peel_paper(job, interval, paper, copies=copies), True)
            self.assertEqual(paper[0], "peel")
            rounds = paper[1]
            for far in (rounds, rounds + 1, rounds + 10**15):
                self.assertEqual(free_paper(job, interval, copies=copies, first=far)[0], "starts")
            if rounds:
                self.assertEqual(free_paper(job, interval, copies=copies, first=rounds - 1)[0], "ring")
                self.assertGreater(rounds, 10**26)
                for bent in (rounds - 1, rounds + 1):
                    self.assertIs(is_peel_paper(job, interval, ("peel", bent, *paper[2:]), copies=copies), False)
            told = ratio_paper(job)
            self.assertIs(is_ratio_paper(job, told), True)
            if told[0] == "peel":
                self.assertEqual(ratio(job, first=told[1]), (0, 1))
                self.assertTrue(told[1] == 0 or ratio(job, first=told[1] - 1) != (0, 1))

    def test_one_copy_far_away(self):
        far = 10**29
        # The load of round j finds what round 2 * j - far stored: the distances fall to 0 in the round far.
        for interval, distance in ((1, 3), (2, 2), (3, 1), (4, 1)):
            kind, rounds, starts, ring = peel_paper(simple(1, 0, 2, -far), interval)
            last = max(i for d in range(1, distance) for i in [far - 2 * d]) if distance > 1 else None
            self.assertEqual((kind, starts), ("peel", {"put": 0}))
            if last is None:
                self.assertEqual((rounds, ring), (0, None))
            else:
                self.assertEqual((rounds, ring), (last + 1, ("put",)))
        kind, rounds, ring, heights, before = ratio_paper(simple(1, 0, 2, -far))
        self.assertEqual((kind, rounds, ring, heights, before), ("peel", far - 1, None, {"put": 0}, ("put",)))

    def test_rounds_of_more_than_thirty_digits(self):
        # Lasting arcs of far distances have a ratio near 0, so that very late rounds count.
        far = 10**30 - 1
        body = Body(
            ("store", "put", "x", 1, 0, ("op", "f", ("load", "x", 1, -far))),
            ("store", "v", "y", far, 0, ("op", "f", ("load", "y", far - 1, 0))),
        )
        job = Job(body, ALL, {"put": "all", "v": "all"})
        self.assertEqual(lasting_ratio(job), (1, far // 3))
        kind, rounds, ring, heights, before = paper = ratio_paper(job)
        self.assertEqual((kind, ring, before), ("peel", ("put",), ("v",)))
        # The distance of v must be at least far: from the round (far - 1) * (far - 1) on.
        self.assertGreater(rounds, 10**58)
        self.assertIs(is_ratio_paper(job, paper), True)
        for bent in (rounds - 1, rounds + 1, rounds + 10**40, 10**100, 10**300):
            self.assertIs(is_ratio_paper(job, ("peel", bent, ring, heights, before)), False)
        self.assertEqual((far - 1) * (far - 1) // (far - 1) % 1, 0)
        i = rounds - 1
        self.assertEqual((far * (i - i % (far - 1))) // (far - 1) - (i - i % (far - 1)), i // (far - 1))
        self.assertLess(i // (far - 1), far)


class EdgesTest(unittest.TestCase):
    def test_the_examples(self):
        self.assertEqual(ratio_paper(JOB), ("endless", ("put",)))
        self.assertIs(is_peel_paper(JOB, 2, ("peel", 2, {"put": 0}, ("put",))), True)
        self.assertEqual((peel_paper(PAIRS_JOB, 1)[:2], ratio_paper(PAIRS_JOB)[:3]), (("peel", 3), ("peel", 3, None)))

    def test_lasting_growing_and_early(self):
        self.assertEqual(peel_paper(simple(1, 0, 1, -1), 2), ("never", ("put",)))
        self.assertEqual(peel_paper(simple(1, 0, 1, -1), 3), ("peel", 0, {"put": 0}, None))
        self.assertEqual(ratio_paper(simple(1, 0, 1, -1)), ("peel", 0, ("put",), {"put": 0}, None))
        self.assertEqual(ratio_paper(simple(3, 0, 2)), ("endless", ("put",)))
        self.assertEqual(ratio_paper(simple(-3, 0, -2)), ("endless", ("put",)))
        self.assertEqual(ratio_paper(simple(2, 0, 3)), ("peel", 0, None, {"put": 0}, None))
        self.assertEqual(ratio_paper(simple(1, -8, -1)), ("peel", 4, None, {"put": 0}, ("put",)))
        self.assertEqual(ratio_paper(simple(1, -5, 0)), ("peel", 6, None, {"put": 0}, ("put",)))
        self.assertEqual(ratio_paper(simple(2, 1, 4)), ("peel", 0, None, {"put": 0}, None))

    def test_an_endless_arc_that_begins_with_distance_0(self):
        # In round 0 the load stands ahead of the store of its own operation, later ahead of a later one.
        job = simple(1, 0, 2)
        self.assertEqual(wide_arcs(job), ())
        self.assertEqual(wide_arcs(job, first=1), (("put", "put", -2, 1),))
        self.assertEqual(ratio_paper(job), ("peel", 0, None, {"put": 0}, None))

    def test_bent_peel_papers(self):
        good = ("peel", 2, {"put": 0}, ("put",))
        never = simple(1, 0, 1, -1)
        self.assertIs(is_peel_paper(never, 2, ("never", ("put",))), True)
        self.assertIs(is_peel_paper(never, 3, ("never", ("put",))), False)
        self.assertIs(is_peel_paper(never, 2, ("never", ("put",), 0)), False)
        self.assertIs(is_peel_paper(never, 2, ("nevers", ("put",))), False)
        self.assertIs(is_peel_paper(JOB, 2, ("never", ("put",))), False)
        bent = [("peel", 1, *good[2:]), ("peel", 3, *good[2:]), ("peel", True, *good[2:]), ("peel", 2, {"put": 0}, None)]
        bent += [("peel", 0, {"put": 0}, None), ("peel", 0, {"put": 0}, ("put",)), good[:3], (*good, 0), list(good), ("peels", *good[1:])]
        bent += [("peel", 2, {}, ("put",)), ("peel", 2, {"put": -1}, ("put",)), ("peel", 2, {"put": 0}, ()), ("peel", 2, {"put": 0}, ["put"])]
        bent += [("peel", -1, *good[2:]), ("peel", 10**40, *good[2:]), ("peel", 2, {"put": 0}, ("put", "put")), ("never", ("put",), 0)]
        for value in [*odd_values(), *bent]:
            self.assertIs(is_peel_paper(JOB, 2, value), False, value)
            self.assertIs(is_peel_paper(JOB, 2, ("never", value)), False)
            self.assertIs(is_peel_paper(JOB, 2, ("peel", 2, value, ("put",))), False)
            self.assertIs(is_peel_paper(JOB, 2, ("peel", 2, {"put": 0}, value)), False)
            if type(value) is not int or value != 2:
                self.assertIs(is_peel_paper(JOB, 2, ("peel", value, *good[2:])), False)
        self.assertIs(is_peel_paper(JOB, 2, ("peel", 2, {"put": 10**6}, ("put",))), True)
        self.assertIs(is_peel_paper(JOB, 2, ("peel", 2, {"put": 10**6 + 1}, ("put",))), False)
        self.assertIs(is_peel_paper(JOB, 3, ("peel", 0, {"put": 5}, None)), True)

    def test_bent_ratio_papers(self):
        good = ratio_paper(PAIRS_JOB)
        self.assertEqual(good, ("peel", 3, None, {"put": 0}, ("put",)))
        self.assertIs(is_ratio_paper(PAIRS_JOB, ("peel", 3, None, {"put": -(10**90)}, ("put",))), True)
        bent = [("peel", 2, *good[2:]), ("peel", 4, *good[2:]), ("peel", 3, ("put",), *good[3:]), (*good[:4], None), good[:4], (*good, 0)]
        bent += [("endless", ("put",)), ("peel", 3, None, {}, ("put",)), ("peel", 3, None, {"put": True}, ("put",)), list(good)]
        bent += [("peel", 3, None, {"put": 0, "x": 0}, ("put",)), ("peel", 3, None, {"put": None}, ("put",)), (*good[:4], ("put", "put"))]
        for value in [*odd_values(), *bent]:
            self.assertIs(is_ratio_paper(PAIRS_JOB, value), False, value)
            self.assertIs(is_ratio_paper(PAIRS_JOB, ("endless", value)), False)
            if value is not None:
                self.assertIs(is_ratio_paper(PAIRS_JOB, (*good[:2], value, *good[3:])), False)
            self.assertIs(is_ratio_paper(PAIRS_JOB, (*good[:3], value, good[4])), False)
            self.assertIs(is_ratio_paper(PAIRS_JOB, (*good[:4], value)), False)
            if type(value) is not int or value != 3:
                self.assertIs(is_ratio_paper(PAIRS_JOB, ("peel", value, *good[2:])), False)
        self.assertIs(is_ratio_paper(JOB, ("endless", ("put",))), True)
        self.assertIs(is_ratio_paper(JOB, ("endless", ("put",), 0)), False)
        self.assertIs(is_ratio_paper(PAIRS_JOB, ("peels", *good[1:])), False)
        lasting = simple(1, 0, 1, -1)
        self.assertIs(is_ratio_paper(lasting, ("peel", 0, ("put",), {"put": 9}, None)), True)
        self.assertIs(is_ratio_paper(lasting, ("peel", 0, None, {"put": 9}, None)), False)
        self.assertIs(is_ratio_paper(lasting, ("endless", ("put",))), False)

    def test_endless_rings_with_a_lasting_ratio(self):
        body = Body(("set", "a", ("op", "k", ("at", "a", 1))), ("store", "s", "x", 2, 0, ("op", "f", ("load", "x", 1, 0), ("at", "a", 0))))
        job = Job(body, ONES, {"a": "k", "s": "put"})
        self.assertEqual((lasting_ratio(job), Fraction(*ratio(job, first=100)) > 0), ((1, 1), True))
        self.assertIs(is_ratio_paper(job, ("endless", ("s",))), False)
        self.assertEqual(ratio_paper(job)[0:3:2], ("peel", ("a",)))

    def test_critical_rings(self):
        told = {True: 0, False: 0}
        for _, job in small_jobs(899, 500, limit=7):
            paper, (p, q) = ratio_paper(job), lasting_ratio(job)
            if p:
                for ring in all_rings(lasting_arcs(job))[:20]:
                    right = asked(lasting_arcs(job), ring, p, q) == 0
                    told[right] += 1
                    self.assertIs(is_ratio_paper(job, (*paper[:2], ring, *paper[3:])), right)
        self.assertGreater(min(told.values()), 10)

    def test_told_rings_in_their_order(self):
        for names in (("b", "a"), ("a", "c", "b"), ("e", "a", "d", "b", "c")):
            for distance in (1, 2, 3):
                job = circle(names, distance)
                kind, ring = never = peel_paper(job, -(-4 * len(names) // distance) - 1)
                self.assertEqual((kind, from_first(ring, names[0])), ("never", names))
                critical = ratio_paper(job)[2]
                self.assertEqual(from_first(critical, names[0]), names)
                self.assertIs(is_peel_paper(job, 1, never), True)
                self.assertIs(is_peel_paper(job, 1, ("never", ring[::-1])), len(ring) < 3)

    def test_told_rings_through_memory_in_their_order(self):
        endless, early = through_memory(2, 0, 1), through_memory(1, -8, -1)
        kind, ring = ratio_paper(endless)
        self.assertEqual((kind, from_first(ring, "a")), ("endless", ("a", "b", "s.0", "s")))
        self.assertIs(is_ratio_paper(endless, ("endless", ring[::-1])), False)
        kind, rounds, critical, heights, before = ratio_paper(early)
        self.assertEqual((kind, rounds, critical), ("peel", 4, None))
        self.assertEqual(from_first(before, "a"), ("a", "b", "s.0", "s"))
        self.assertIs(is_ratio_paper(early, (kind, rounds, critical, heights, before[::-1])), False)
        for paper in (peel_paper(endless, 3), peel_paper(early, 3)):
            self.assertEqual((paper[0], from_first(paper[3], "a")), ("peel", ("a", "b", "s.0", "s")))

    def test_heights_by_another_hand(self):
        random, told = seeded(897), {True: 0, False: 0}
        for _ in range(150):
            job = mixed(random)
            paper = ratio_paper(job)
            if paper[0] == "endless":
                continue
            p, q = lasting_ratio(job)
            heights = {text: height + random.choice((0, 0, 10**40, -1, 1)) for text, height in paper[3].items()}
            arcs = wide_arcs(job, first=paper[1])
            right = all(heights[t] - heights[s] >= delay * q - p * gap for s, t, delay, gap in arcs)
            told[right] += 1
            self.assertIs(is_ratio_paper(job, (*paper[:3], heights, paper[4])), right)
            for ring in all_rings(lasting_arcs(job))[:20]:
                fine = p > 0 and asked(lasting_arcs(job), ring, p, q) == 0
                self.assertIs(is_ratio_paper(job, (*paper[:2], ring, *paper[3:])), fine)
        self.assertGreater(min(told.values()), 20)


class WrongArgumentsTest(unittest.TestCase):
    def test_arguments(self):
        for value in odd_values():
            is_number = type(value) is int
            if not isinstance(value, Job):
                refused(self, InvalidJob, peel_paper, value, 0, copies=0)
                refused(self, InvalidJob, is_peel_paper, value, 0, None, copies=0)
                refused(self, InvalidJob, ratio_paper, value)
                refused(self, InvalidJob, is_ratio_paper, value, None)
            if not is_number or not 1 <= value <= 1000:
                refuses_number(self, value, peel_paper, JOB, value, copies=0)
                refuses_number(self, value, is_peel_paper, JOB, value, None, copies=0)
            if not is_number or not 1 <= value <= 16:
                refuses_number(self, value, peel_paper, JOB, 1, copies=value)
                refuses_number(self, value, is_peel_paper, JOB, 1, None, copies=value)
        wide = Job(Body(*[("set", f"{letter}x", ("op", "f", ("load", "y", 1, 0), ("load", "y", 1, 0))) for letter in "abc"]), ONES, {f"{letter}x": "f" for letter in "abc"})
        self.assertEqual(refused(self, TooMany, peel_paper, wide, 1, copies=11).limit, 32)
        self.assertEqual(refused(self, TooMany, is_peel_paper, wide, 1, None, copies=11).limit, 32)
        self.assertEqual(peel_paper(wide, 1000, copies=10)[:2], ("peel", 0))


if __name__ == "__main__":
    unittest.main()
