"""Points of values, and those of jobs by their starts and operands."""

import unittest

from loopfoundry.errors import InvalidArgument, InvalidJob, InvalidLives, TooMany
from loopfoundry.few.making import points_of
from loopfoundry.few.points import Points
from loopfoundry.jobs.jobs import Job
from loopfoundry.machine.machines import Machine
from loopfoundry.plans.plans import is_plan, spare
from loopfoundry.source.bodies import Body
from tests.helpers import (
    CHIP,
    DOT,
    draw_job,
    fitting_starts,
    odd_values,
    refused,
    refuses_name,
    refuses_number,
    seeded,
)

TIGHT = Points(3, {"a": (0, 1, 2), "b": (2, 3)})
READ = Points(3, {"a": (0, 3, 5), "b": (1,)}, reload=(1, (("u", 0),)), spare={("u", 2): 1})
LAST = 10**30 - 2
JOB = Job(DOT, CHIP, {"mul": "mulld", "mul.1": "get", "sum": "add"})
STARTS = {"mul": 3, "mul.1": 0, "sum": 7}


def draw_table(random):
    uses = {(random.choice("uv"), random.randint(0, 3)) for _ in range(random.randint(0, 2))}
    return random.randint(1, 4), tuple(sorted(uses))


def draw_points(random):
    interval, rows = random.randint(1, 6), {}
    for key in random.sample(["a", "b.0", "mul.1", "9", "z"], random.randint(0, 5)):
        rows[key] = tuple(sorted(random.sample(range(-9, 20), random.randint(1, 5))))
    spare_units = {(random.choice("uv"), random.randrange(interval)): random.randint(0, 3) for _ in range(3)}
    return Points(interval, rows, save=draw_table(random), reload=draw_table(random), spare=spare_units)


class DrawnPointsTest(unittest.TestCase):
    def test_gaps(self):
        random = seeded(780)
        many = 0
        for _ in range(150):
            points = draw_points(random)
            rows, ticks = [], points.save[0] + points.reload[0]
            for key in sorted(points.rows):
                for j in range(1, len(points[key])):
                    if points[key][0] + ticks <= points[key][j]:
                        rows.append((key, j))
            self.assertEqual(points.gaps, tuple(rows))
            many += len(rows)
        self.assertGreater(many, 200)

    def test_later(self):
        random = seeded(781)
        for _ in range(80):
            points, ticks = draw_points(random), random.randint(-40, 40)
            later = points + ticks
            self.assertEqual(later.rows, {key: tuple(t + ticks for t in row) for key, row in points.rows.items()})
            wanted = {(unit, (slot + ticks) % points.interval): many for (unit, slot), many in points.spare.items()}
            self.assertEqual((later.spare, list(later.spare)), (wanted, sorted(wanted)))
            self.assertEqual((later.interval, later.save, later.reload), (points.interval, points.save, points.reload))
            self.assertEqual(later.gaps, points.gaps)
            self.assertEqual(later + -ticks, points)

    def test_without_the_last_point(self):
        random = seeded(782)
        for _ in range(80):
            points = draw_points(random)
            for key in points:
                if len(points[key]) == 1:
                    refused(self, InvalidArgument, points.without_last, key)
                    continue
                less = points.without_last(key)
                rows = {**points.rows, key: points[key][:-1]}
                same = Points(points.interval, rows, save=points.save, reload=points.reload, spare=points.spare)
                self.assertEqual(less, same)
                self.assertEqual(len(less[key]), len(points[key]) - 1)

    def test_objects(self):
        random = seeded(783)
        for _ in range(60):
            points = draw_points(random)
            keys = sorted(points.rows)
            self.assertEqual((list(points), len(points), list(points.rows)), (keys, len(keys), keys))
            self.assertEqual(str(points), f"points of {len(keys)} values in {points.interval} ticks")
            self.assertTrue(all(key in points for key in keys))
            self.assertEqual([points[key] for key in keys], [points.rows[key] for key in keys])


class EdgesTest(unittest.TestCase):
    def test_gaps_that_are_just_long_enough(self):
        for save, reload, gaps in (((1, ()), (1, ()), 3), ((1, ()), (2, ()), 2), ((2, ()), (2, ()), 1), ((4, ()), (1, ()), 0)):
            points = Points(9, {"a": (5, 6, 7, 8, 9)}, save=save, reload=reload)
            self.assertEqual(points.gaps, tuple(("a", j) for j in range(5 - gaps, 5)))
        self.assertEqual(TIGHT.gaps, (("a", 2),))
        self.assertEqual(Points(1, {"a": (7,)}).gaps, ())

    def test_a_unit_that_is_never_spare(self):
        points = Points(3, {"a": (0, 2)}, save=(1, (("u", 0),)))
        self.assertEqual((points.spare, points.gaps, points.save), ({}, (("a", 1),), (1, (("u", 0),))))
        self.assertEqual(Points(3, {"a": (0, 2)}, save=points.save, spare={("u", 0): 0}).spare, {("u", 0): 0})

    def test_defaults(self):
        self.assertEqual((TIGHT.save, TIGHT.reload, TIGHT.spare), ((1, ()), (1, ()), {}))
        self.assertEqual(Points(3, TIGHT.rows, spare={}), TIGHT)
        self.assertNotEqual(Points(3, TIGHT.rows, spare={("u", 0): 0}), TIGHT)

    def test_sizes(self):
        self.assertEqual((len(Points(1, {})), Points(1, {}).gaps, str(Points(32, {}))), (0, (), "points of 0 values in 32 ticks"))
        many = {f"k{k}": (0, 1) for k in range(24)}
        self.assertEqual(len(Points(2, many)), 24)
        refused(self, InvalidLives, Points, 2, {**many, "z": (0,)})
        refused(self, InvalidLives, Points, 2, {**many, "k0": (0, 1, 2)})
        self.assertEqual(len(Points(2, {f"k{k}": (0,) for k in range(24)})), 24)
        refused(self, InvalidLives, Points, 2, {f"k{k}": (0,) for k in range(25)})
        self.assertEqual(len(Points(2, {"a": tuple(range(48))})["a"]), 48)
        refused(self, InvalidLives, Points, 2, {"a": tuple(range(49))})

    def test_far_ticks(self):
        far = Points(3, {"a": (1 - 10**30, LAST)})
        self.assertEqual(far.gaps, (("a", 1),))
        refused(self, InvalidArgument, lambda: far + 1)
        refused(self, InvalidArgument, lambda: far + -1)
        self.assertEqual(far + 0, far)
        refused(self, InvalidLives, Points, 3, {"a": (LAST + 1,)})
        refused(self, InvalidLives, Points, 3, {"a": (-(10**30),)})
        near = Points(3, {"a": (0,)}, spare={("u", 2): 1})
        self.assertEqual((near + LAST).spare, {("u", (2 + LAST) % 3): 1})
        refused(self, InvalidArgument, lambda: near + (LAST + 1))
        self.assertEqual((near + (1 - 10**30))["a"], (1 - 10**30,))

    def test_equal_points(self):
        same = Points(3, {"b": (1,), "a": (0, 3, 5)}, reload=(1, (("u", 0),)), spare={("u", 2): 1})
        self.assertEqual(READ, same)
        others = [
            Points(4, READ.rows, reload=READ.reload, spare=READ.spare),
            Points(3, {**READ.rows, "b": (2,)}, reload=READ.reload, spare=READ.spare),
            Points(3, READ.rows, save=(2, ()), reload=READ.reload, spare=READ.spare),
            Points(3, READ.rows, spare=READ.spare),
            Points(3, READ.rows, reload=READ.reload),
        ]
        for value in [*others, READ.rows, None, 3]:
            self.assertNotEqual(READ, value)

    def test_nothing_gives_access_to_the_state(self):
        rows, units = {"a": (0, 3)}, {("u", 1): 2}
        points = Points(3, rows, spare=units)
        rows["b"] = (1,)
        units[("u", 2)] = 1
        points.rows.clear()
        points.spare.clear()
        self.assertEqual(points, Points(3, {"a": (0, 3)}, spare={("u", 1): 2}))
        self.assertEqual((points.rows, points.spare), ({"a": (0, 3)}, {("u", 1): 2}))


class WrongArgumentsTest(unittest.TestCase):
    def test_intervals_and_rows(self):
        for value in odd_values():
            if type(value) is not int or not 1 <= value <= 32:
                refuses_number(self, value, Points, value, None, save=None, reload=None, spare=3)
            if value != {}:
                refused(self, InvalidLives, Points, 3, value, save=None, reload=None, spare=3)
            if value not in ((0,), (0, 1), (0, 1, 2)):
                refused(self, InvalidLives, Points, 3, {"a": value})
        for row in ((1, 0), (0, 0), (False,), (0, True), [0], (0, None), ("0",)):
            refused(self, InvalidLives, Points, 3, {"a": (3,), "b": row})
        for key in ("", "A", "a b", "a:0", "a\n", "x" * 21, 0, None, ("a",)):
            refused(self, InvalidLives, Points, 3, {key: (0,)})
        for key in ("x" * 20, "9", ".", "abcdefgh.0.0.0.0"):
            self.assertIn(key, Points(3, {key: (0,)}))

    def test_tables(self):
        for value in odd_values():
            if value != (1, ()):
                refused(self, InvalidArgument, Points, 3, {}, save=value)
                refused(self, InvalidArgument, Points, 3, {}, reload=value)
        for table in ((0, ()), (5, ()), (1, (("u", 4),)), (1, (("u", 1), ("u", 0))), (1, (("U", 0),)), (True, ()), (1, [])):
            refused(self, InvalidArgument, Points, 3, {}, save=table)
            refused(self, InvalidArgument, Points, 3, {}, reload=table, spare=None)
        self.assertEqual(Points(3, {}, save=(4, (("u", 0), ("u", 3)))).save, (4, (("u", 0), ("u", 3))))

    def test_spare_units(self):
        for value in odd_values():
            if value is not None and value != {}:
                refused(self, InvalidArgument, Points, 3, {}, spare=value)
            if type(value) is not int or not 0 <= value <= 3:
                refused(self, InvalidArgument, Points, 3, {}, spare={("u", 0): value})
        for at in (("u", 3), ("u", -1), ("u", True), ("U", 0), ("u",), "u", ("u", 0, 0), (0, "u"), ("u", None)):
            refused(self, InvalidArgument, Points, 3, {}, spare={("v", 1): 1, at: 1})
        self.assertEqual(Points(3, {}, spare={("u", 2): 3, ("u", 0): 0}).spare, {("u", 0): 0, ("u", 2): 3})

    def test_keys(self):
        for value in odd_values():
            if value != "a":
                refuses_name(self, value, READ.__getitem__, value)
                refuses_name(self, value, READ.without_last, value)
                self.assertIs(value in READ, False)
            if type(value) is not int or abs(value) >= 10**30:
                refused(self, InvalidArgument, lambda: READ + value)
        refused(self, InvalidArgument, READ.without_last, "b")
        self.assertEqual(READ.rows, {"a": (0, 3, 5), "b": (1,)})


class JobsTest(unittest.TestCase):
    def test_drawn_jobs(self):
        random, plans, unread = seeded(784), 0, 0
        while plans < 80:
            job, interval = draw_job(random, chance=0.2), random.randint(1, 12)
            starts = fitting_starts(random, job, interval)
            if starts is None:
                continue
            if not is_plan(job, interval, starts):
                refused(self, InvalidArgument, points_of, job, interval, starts)
                continue
            rows = {}
            for text in job.valued:
                ticks = {starts[text] + job.ticks(text)}
                for reader in job.operations:
                    ticks |= {starts[reader] + interval * gap for source, gap in job.operands(reader) if source == text}
                rows[text] = tuple(sorted(ticks))
                unread += len(ticks) == 1
            if sum(map(len, rows.values())) > 48:
                self.assertEqual(refused(self, TooMany, points_of, job, interval, starts).limit, 48)
                continue
            plans += 1
            points = points_of(job, interval, starts)
            self.assertEqual((points.rows, list(points)), (rows, list(job.valued)))
            self.assertEqual((points.save, points.reload), (job.machine.save, job.machine.reload))
            self.assertEqual((points.interval, points.spare), (interval, spare(job, interval, starts)))
        self.assertGreater(unread, 20)

    def test_the_example(self):
        points = points_of(JOB, 2, STARTS)
        self.assertEqual(points.rows, {"mul": (6, 7), "mul.1": (2, 3), "sum": (8, 9)})
        self.assertEqual((points.save, points.reload), ((1, (("mem", 0),)), (2, (("mem", 0),))))
        self.assertEqual(points.spare, {(unit, slot): 0 for unit in ("alu", "mem") for slot in (0, 1)})

    def test_48_and_49_points(self):
        names = "abcdefghijklmnopqrstuvwx"
        machine = Machine.from_lines("pattern f 1 1 : f ( _ _ _ )", "pattern g 1 1 : g ( )")
        for more in (0, 1):
            rows = [("set", "a", ("op", "g"))]
            for place, name in enumerate(names[1:]):
                ats = [("at", names[place], 1)] * 3
                if place == 0 and more:
                    ats[1] = ("at", names[place], 2)
                rows.append(("set", name, ("op", "f", *ats)))
            rows[1] = ("set", "b", ("op", "f", ("at", "a", 1), ("at", "x", 3), ("at", "a", 1 + more)))
            job = Job(Body(*rows), machine, {name: "g" if name == "a" else "f" for name in names})
            starts = {name: 0 for name in names}
            if more:
                self.assertEqual(refused(self, TooMany, points_of, job, 2, starts).limit, 48)
            else:
                points = points_of(job, 2, starts)
                self.assertEqual(sum(len(points[name]) for name in names), 48)

    def test_a_reading_in_the_tick_of_the_writing(self):
        body = Body(("set", "a", ("op", "g")), ("set", "b", ("op", "f", ("at", "a", 0))))
        machine = Machine.from_lines("pattern f 1 1 : f ( _ )", "pattern g 2 1 : g ( )")
        job = Job(body, machine, {"a": "g", "b": "f"})
        self.assertEqual(points_of(job, 1, {"a": 0, "b": 2}).rows, {"a": (2,), "b": (3,)})
        self.assertEqual(points_of(job, 1, {"a": 0, "b": 3}).rows, {"a": (2, 3), "b": (4,)})

    def test_wrong_arguments(self):
        for value in odd_values():
            if not isinstance(value, Job):
                refused(self, InvalidJob, points_of, value, 0, None)
            if type(value) is not int or not 1 <= value <= 32:
                refuses_number(self, value, points_of, JOB, value, None)
            refused(self, InvalidArgument, points_of, JOB, 2, value)
        refused(self, InvalidArgument, points_of, JOB, 2, {**STARTS, "sum": 5})
        refused(self, InvalidArgument, points_of, JOB, 2, {**STARTS, "sum": 8})
        refused(self, InvalidArgument, points_of, JOB, 3, STARTS)


if __name__ == "__main__":
    unittest.main()
