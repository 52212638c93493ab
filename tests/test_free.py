"""Free intervals, wide arcs and ratios: by walking rounds, by all intervals, and by all rings of small jobs."""

import unittest
from fractions import Fraction

from loopfoundry.errors import InvalidArgument, InvalidJob, TooMany
from loopfoundry.jobs.jobs import Job
from loopfoundry.machine.machines import Machine
from loopfoundry.memory.meetings import Meetings, is_place
from loopfoundry.source.bodies import Body
from loopfoundry.wide.bodies import copied_starts, peeled_job, unrolled_job
from loopfoundry.wide.free import (
    free_interval,
    free_paper,
    is_free_paper,
    lasting_arcs,
    lasting_ratio,
    meeting_kind,
    ratio,
    wide_arcs,
)
from tests.helpers import PAIRS, draw_job, fitting_starts, odd_values, refused, refuses_number, seeded
from tests.wide_helpers import all_rings, asked, do_fit, forced_ratio, walked_arcs

ALL = Machine.from_lines("pattern all 3 1 : = f ( @ )")
DOUBLE = Body(("store", "put", "x", 2, 0, ("op", "f", ("load", "x", 1, 0))))
JOB, PAIRS_JOB = Job(DOUBLE, ALL, {"put": "all"}), Job(PAIRS, ALL, {"put": "all"})
ONES = Machine.from_lines("pattern h 1 1 : h ( )", "pattern k 4 1 : k ( _ )", "pattern put 2 1 : = _", "pattern get 2 1 : @", "pattern f 3 1 : f ( _ _ )")


def small_jobs(number, many, limit=7, spread=4):
    random = seeded(number)
    for _ in range(many):
        yield random, draw_job(random, most=random.choice((2, 3)), levels=random.choice((2, 3)), limit=limit, spread=spread)


def circle(names, distance):
    """A job in which each of some operations reads the one before it, and the first one the last one of such a round."""
    reads = [("at", names[-1], distance), *[("at", name, 0) for name in names[:-1]]]
    rows = [("set", name, ("op", "k", read)) for name, read in zip(names, reads)]
    return Job(Body(*rows), ONES, {name: "k" for name in names})


class WideArcsTest(unittest.TestCase):
    def test_walked_rounds(self):
        memory = 0
        for random, job in small_jobs(880, 150):
            copies, first = random.randint(1, 4), random.randint(0, 5)
            arcs = walked_arcs(job, copies, first)
            self.assertEqual(wide_arcs(job, copies=copies, first=first), arcs)
            memory += len(arcs) > len(walked_arcs(Job(Body(("set", "a", ("op", "h"))), ONES, {"a": "h"}), copies, first))
        self.assertGreater(memory, 80)

    def test_jobs_of_the_bodies(self):
        for random, job in small_jobs(881, 120):
            copies, first = random.randint(1, 3), random.randint(0, 9)
            self.assertEqual(wide_arcs(job, first=first), peeled_job(job, first).arcs)
            if copies > 1 and len(job.body.operations) * copies <= 24:
                self.assertEqual(wide_arcs(job, copies=copies, first=first), unrolled_job(peeled_job(job, first), copies).arcs)

    def test_lasting_arcs(self):
        few = 0
        for random, job in small_jobs(882, 150):
            copies = random.randint(1, 3)
            lasting = lasting_arcs(job, copies=copies)
            for first in (0, 1, 2, 7, 10**9):
                arcs = wide_arcs(job, copies=copies, first=first)
                self.assertLessEqual(set(lasting), set(arcs))
            # Very late all other arcs have gone, or have great distances.
            near = tuple(arc for arc in wide_arcs(job, copies=copies, first=10**9) if arc[3] < 1000)
            self.assertEqual(near, lasting)
            few += lasting != wide_arcs(job, copies=copies)
        self.assertGreater(few, 20)

    def test_kinds_of_meetings(self):
        for step in range(-3, 4):
            for offset in range(-4, 5):
                for other_step in range(-3, 4):
                    for other_offset in (-3, 0, 1):
                        store, load = (step, offset), (other_step, other_offset)
                        if step == 0:
                            refused(self, InvalidArgument, meeting_kind, store, load)
                            continue
                        rounds = [(i, j) for i in range(60) for j in range(60) if step * i + offset == other_step * j + other_offset]
                        kind = meeting_kind(store, load)
                        if not rounds:
                            self.assertEqual(kind, "none")
                        elif step == other_step:
                            self.assertEqual((kind, len({j - i for i, j in rounds})), ("lasting", 1))
                        elif step * other_step > 0:
                            self.assertEqual(kind, "growing")
                            self.assertGreater(len({j - i for i, j in rounds}), 5)
                        else:
                            self.assertEqual(kind, "early")
                            self.assertLess(max(min(pair) for pair in rounds), 10)
        self.assertEqual([meeting_kind((1, 0), (2, -4)), meeting_kind((2, 1), (4, 0))], ["growing", "none"])
        far = 10**30 - 1
        self.assertEqual(meeting_kind((1, 0), (1, far)), "lasting")
        self.assertEqual(meeting_kind((1, 0), (0, far)), "early")
        self.assertEqual(meeting_kind((far, 0), (-far, far)), "early")
        self.assertEqual(meeting_kind((1, 0), (-1, -1)), "none")

    def test_the_examples(self):
        self.assertEqual(wide_arcs(JOB), (("put", "put", 3, 1),))
        self.assertEqual(wide_arcs(JOB, copies=2), (("aa", "aa", 3, 1), ("ab", "aa", 3, 1)))
        self.assertEqual([free_interval(JOB, copies=u) for u in (1, 2, 3, 4)], [3, 3, 6, 3])
        self.assertEqual((ratio(JOB, first=2), lasting_ratio(JOB)), ((3, 2), (0, 1)))
        self.assertEqual(lasting_arcs(JOB), ())


class FreeIntervalsTest(unittest.TestCase):
    def test_all_intervals(self):
        great = 0
        for random, job in small_jobs(883, 200):
            copies, first = random.randint(1, 3), random.randint(0, 4)
            free = free_interval(job, copies=copies, first=first)
            arcs = wide_arcs(job, copies=copies, first=first)
            great += free > 2
            for interval in range(1, free + 3):
                paper = free_paper(job, interval, copies=copies, first=first)
                self.assertEqual(paper[0], "starts" if interval >= free else "ring")
                self.assertIs(is_free_paper(job, interval, paper, copies=copies, first=first), True)
                if paper[0] == "starts":
                    self.assertTrue(do_fit(arcs, interval, paper[1]))
                    self.assertEqual(list(paper[1]), sorted({text for arc in arcs for text in arc[:2]} | set(paper[1])))
                else:
                    self.assertGreater(asked(arcs, paper[1], interval, 1), 0)
                    self.assertEqual(len(set(paper[1])), len(paper[1]))
        self.assertGreater(great, 20)

    def test_ratios_by_all_rings(self):
        parted = 0
        for random, job in small_jobs(884, 200, limit=6):
            first = random.randint(0, 5)
            found = ratio(job, first=first)
            wanted = forced_ratio(wide_arcs(job, first=first))
            self.assertEqual(found, (wanted.numerator, wanted.denominator))
            lasting = forced_ratio(lasting_arcs(job))
            self.assertEqual(lasting_ratio(job), (lasting.numerator, lasting.denominator))
            self.assertLessEqual(lasting, wanted)
            self.assertEqual(free_interval(job, first=first), max(1, -(-wanted.numerator // wanted.denominator)))
            for copies in (1, 2, 3):
                free = free_interval(job, copies=copies, first=first)
                self.assertGreaterEqual(free, copies * lasting)
                self.assertLessEqual(free, max(1, -(-copies * wanted.numerator // wanted.denominator)))
            parted += wanted.denominator > 1
        self.assertGreater(parted, 10)

    def test_it_never_grows_with_the_rounds(self):
        for random, job in small_jobs(885, 100):
            copies = random.randint(1, 3)
            rows = [free_interval(job, copies=copies, first=first) for first in (0, 1, 2, 3, 5, 9, 10**20)]
            self.assertEqual(rows, sorted(rows, reverse=True))

    def test_rings_by_another_hand(self):
        told = {True: 0, False: 0}
        for random, job in small_jobs(886, 150, limit=6):
            copies, interval = random.randint(1, 2), random.randint(1, 4)
            arcs = wide_arcs(job, copies=copies)
            for ring in all_rings(arcs)[:30]:
                right = asked(arcs, ring, interval, 1) > 0
                told[right] += 1
                for k in range(len(ring)):
                    turned = ring[k:] + ring[:k]
                    self.assertIs(is_free_paper(job, interval, ("ring", turned), copies=copies), right)
                self.assertIs(is_free_paper(job, interval, ("ring", ring + ring), copies=copies), False)
                pairs = {arc[:2] for arc in arcs}
                back = ring[::-1]
                fine = all(pair in pairs for pair in zip(back, back[1:] + back[:1])) and asked(arcs, back, interval, 1) > 0
                self.assertIs(is_free_paper(job, interval, ("ring", back), copies=copies), fine)
        self.assertGreater(min(told.values()), 20)

    def test_told_rings_in_their_order(self):
        # Each one reads the one before it, and the first one the last one of an earlier round.
        for names in (("a",), ("b", "a"), ("a", "c", "b"), ("d", "b", "a", "c"), ("e", "a", "d", "b", "c")):
            for distance in (1, 2, 3):
                job = circle(names, distance)
                for copies in (1, 2, 3):
                    free = -(-4 * len(names) * copies // distance)
                    self.assertEqual(free_interval(job, copies=copies), free)
                    for interval in {1, free - 1}:
                        ring = free_paper(job, interval, copies=copies)[1]
                        self.assert_turned(job, ring, copies)
                        back = ("ring", ring[::-1])
                        self.assertIs(is_free_paper(job, interval, back, copies=copies), len(set(ring)) < 3)

    def assert_turned(self, job, ring, copies):
        """The ring goes along the arcs, and is one of all rings of them in another one's place as its first."""
        arcs = wide_arcs(job, copies=copies)
        first = ring.index(min(ring))
        self.assertIn(ring[first:] + ring[:first], all_rings(arcs))
        pairs = [arc[:2] for arc in arcs]
        for pair in zip(ring, ring[1:] + ring[:1]):
            self.assertIn(pair, pairs)

    def test_starts_by_another_hand(self):
        told = {True: 0, False: 0}
        for random, job in small_jobs(887, 200, limit=6):
            copies, interval = random.randint(1, 2), random.randint(1, 5)
            arcs = wide_arcs(job, copies=copies)
            paper = free_paper(job, interval, copies=copies)
            if paper[0] == "ring" or not arcs:
                continue
            for _ in range(5):
                starts = {text: start + 50 for text, start in paper[1].items()}
                starts[random.choice(sorted(starts))] += random.randint(-3, 3)
                right = do_fit(arcs, interval, starts)
                told[right] += 1
                self.assertIs(is_free_paper(job, interval, ("starts", starts), copies=copies), right)
        self.assertGreater(min(told.values()), 50)

    def test_copied_starts_do_not_always_fit(self):
        random, parted = seeded(888), 0
        for _ in range(400):
            job, interval, copies = draw_job(random, limit=6, spread=3), random.randint(1, 4), 2
            starts = fitting_starts(random, job, interval)
            if starts is None:
                continue
            wide = copied_starts(job, interval, starts, copies)
            fits = is_free_paper(job, copies * interval, ("starts", wide), copies=copies)
            self.assertIs(fits, True)
            same = {text: starts[job.operations[0]] for text in wide}
            parted += not is_free_paper(job, interval, ("starts", same), copies=copies)
        self.assertGreater(parted, 100)


class EdgesTest(unittest.TestCase):
    def test_32_and_33_operations(self):
        rows = [("set", f"{letter}x", ("op", "h")) for letter in "abcdefghijk"]
        job = Job(Body(*rows[:8]), ONES, {row[1]: "h" for row in rows[:8]})
        self.assertEqual(free_interval(job, copies=4), 1)
        for many, copies in ((3, 11), (11, 3), (8, 5)):
            wide = Job(Body(*rows[:many]), ONES, {row[1]: "h" for row in rows[:many]})
            calls = [lambda: wide_arcs(wide, copies=copies), lambda: lasting_arcs(wide, copies=copies)]
            calls += [lambda: free_interval(wide, copies=copies), lambda: free_paper(wide, 1, copies=copies)]
            calls += [lambda: is_free_paper(wide, 1, None, copies=copies)]
            for call in calls:
                self.assertEqual(refused(self, TooMany, call).limit, 32)

    def test_16_copies(self):
        ring = Job(Body(("set", "a", ("op", "k", ("op", "k", ("at", "a", 3))))), ONES, {"a": "k", "a.0": "k"})
        self.assertEqual((ratio(ring), lasting_ratio(ring)), ((8, 3), (8, 3)))
        for copies in range(1, 17):
            free = -(-8 * copies // 3)
            self.assertEqual(free_interval(ring, copies=copies), free)
            self.assertEqual(free_paper(ring, free, copies=copies)[0], "starts")
            self.assertEqual(free_paper(ring, free - 1, copies=copies)[0], "ring")
        starts = free_paper(ring, 1000, copies=16)[1]
        self.assertEqual((len(starts), min(starts.values())), (32, 0))

    def test_places_of_thirty_digits(self):
        far = 10**30 - 1
        job = Job(Body(("store", "put", "x", 1, 0, ("op", "f", ("load", "x", 1, -far)))), ALL, {"put": "all"})
        self.assertEqual(wide_arcs(job), (("put", "put", 3, far),))
        self.assertEqual((ratio(job), lasting_ratio(job)), ((1, far // 3), (1, far // 3)))
        self.assertEqual(wide_arcs(job, copies=2, first=far)[0], ("aa", "ab", 3, far // 2))
        grow = Job(Body(("store", "put", "x", far, 0, ("op", "f", ("load", "x", far - 1, 0)))), ALL, {"put": "all"})
        self.assertEqual(wide_arcs(grow, first=far), (("put", "put", 3, 2),))
        self.assertEqual([free_interval(grow, first=first) for first in (0, far - 2, far - 1, far, 10**30 - 1)], [3, 3, 3, 2, 2])
        self.assertEqual(ratio(grow, first=far), (3, 2))

    def test_a_load_of_one_cell(self):
        job = Job(Body(("store", "put", "x", 1, -5, ("op", "f", ("load", "x", 0, 0)))), ALL, {"put": "all"})
        # Its load ahead of the store of the round 5 has the distance 0, so that arc is left out.
        self.assertEqual(wide_arcs(job), (("put", "put", 3, 1),))
        self.assertEqual(wide_arcs(job, first=5), (("put", "put", 3, 1),))
        self.assertEqual(wide_arcs(job, first=6), ())
        self.assertEqual(lasting_arcs(job), ())
        self.assertEqual([wide_arcs(job, copies=2, first=k) for k in (5, 6)], [walked_arcs(job, 2, 5), ()])

    def test_two_arcs_between_neighbours(self):
        # The one asks for most with small intervals, the other one with great ones.
        body = Body(("set", "a", ("op", "f", ("at", "a", 1), ("at", "b", 3))), ("set", "b", ("op", "f", ("at", "a", 0), ("at", "a", 3))))
        job = Job(body, ONES, {"a": "f", "b": "f"})
        self.assertEqual(ratio(job), (3, 1))
        self.assertEqual(forced_ratio(wide_arcs(job)), Fraction(3))
        self.assertIs(is_free_paper(job, 2, ("ring", ("a",))), True)
        self.assertIs(is_free_paper(job, 1, ("ring", ("a", "b"))), True)
        self.assertIs(is_free_paper(job, 2, ("ring", ("a", "b"))), False)

    def test_bent_papers(self):
        ring, starts = ("ring", ("put",)), ("starts", {"put": 0})
        self.assertIs(is_free_paper(JOB, 2, ring), True)
        self.assertIs(is_free_paper(JOB, 3, ring), False)
        self.assertIs(is_free_paper(JOB, 3, starts), True)
        self.assertIs(is_free_paper(JOB, 2, starts), False)
        bent = [("ring", ()), ("ring", ["put"]), ("ring", ("put", "put")), ("ring", ("x",)), ("ring", ("put",), ()), ("ring",), ("rings", ("put",))]
        for value in [*odd_values(), *bent, ("ring", (None,)), ("ring", ([],)), ("ring", "put"), ["ring", ("put",)], ("ring", (("put",),))]:
            self.assertIs(is_free_paper(JOB, 2, value), False, value)
            self.assertIs(is_free_paper(JOB, 2, ("ring", value)), False)
            self.assertIs(is_free_paper(JOB, 3, ("starts", value)), False)
            if not (type(value) is int and 0 <= value <= 10**6):
                self.assertIs(is_free_paper(JOB, 3, ("starts", {"put": value})), False)
        for rows in ({"put": 10**6 + 1}, {"put": -1}, {"put": True}, {"aa": 0}, {"put": 0, "aa": 0}, {}):
            self.assertIs(is_free_paper(JOB, 3, ("starts", rows)), False)
        self.assertIs(is_free_paper(JOB, 3, ("starts", {"put": 10**6})), True)
        self.assertIs(is_free_paper(JOB, 3, ("starts", {"aa": 0, "ab": 0}), copies=2), True)
        self.assertIs(is_free_paper(JOB, 3, ("starts", {"put": 0}), copies=2), False)


class WrongArgumentsTest(unittest.TestCase):
    def test_arguments(self):
        for value in odd_values():
            is_number = type(value) is int and abs(value) < 10**30
            if not isinstance(value, Job):
                for call in (wide_arcs, free_interval):
                    refused(self, InvalidJob, call, value, copies=0, first=-1)
                refused(self, InvalidJob, lasting_arcs, value, copies=0)
                refused(self, InvalidJob, free_paper, value, 0, copies=0, first=-1)
                refused(self, InvalidJob, is_free_paper, value, 0, None, copies=0, first=-1)
                refused(self, InvalidJob, ratio, value, first=-1)
                refused(self, InvalidJob, lasting_ratio, value)
            if not is_number or not 1 <= value <= 1000:
                refuses_number(self, value, free_paper, JOB, value, copies=0, first=-1)
                refuses_number(self, value, is_free_paper, JOB, value, None, copies=0, first=-1)
            if not is_number or not 1 <= value <= 16:
                for call in (wide_arcs, free_interval):
                    refuses_number(self, value, call, JOB, copies=value, first=-1)
                refuses_number(self, value, lasting_arcs, JOB, copies=value)
                refuses_number(self, value, free_paper, JOB, 1, copies=value, first=-1)
                refuses_number(self, value, is_free_paper, JOB, 1, None, copies=value, first=-1)
            if not is_number or value < 0:
                for call in (wide_arcs, free_interval):
                    refuses_number(self, value, call, JOB, copies=2, first=value)
                refuses_number(self, value, free_paper, JOB, 1, first=value)
                refuses_number(self, value, is_free_paper, JOB, 1, None, first=value)
                refuses_number(self, value, ratio, JOB, first=value)
            if not is_place(value) or value[0] == 0:
                refused(self, InvalidArgument, meeting_kind, value, (1, 0))
            if not is_place(value):
                refused(self, InvalidArgument, meeting_kind, (1, 0), value)
        refused(self, InvalidArgument, meeting_kind, (1, 0), (1, 10**30))
        refused(self, InvalidArgument, meeting_kind, (1, -(10**30)), (1, 0))
        refuses_number(self, 1001, free_paper, JOB, 1001)
        refuses_number(self, 17, free_interval, JOB, copies=17)
        self.assertEqual(free_paper(JOB, 1000)[0], "starts")
        self.assertEqual(bool(Meetings((2, 0), (1, 0))), True)
        self.assertEqual(PAIRS_JOB.arcs, wide_arcs(PAIRS_JOB))


if __name__ == "__main__":
    unittest.main()
