"""Lives, counted round by round and tick by tick, and the lives of jobs by what their trees read."""

import unittest

from loopfoundry.errors import InvalidArgument, InvalidJob, InvalidLives
from loopfoundry.files.lives import Lives, alive_counts, lives_of
from loopfoundry.files.turning import file_paper, is_file_paper, least_registers
from loopfoundry.jobs.jobs import Job
from loopfoundry.source.trees import path_of
from tests.helpers import (
    CHIP,
    DOT,
    ascending,
    draw_job,
    fitting_starts,
    odd_values,
    refused,
    refuses_name,
    refuses_number,
    seeded,
)

PAIR = Lives(2, {"a": (1, 3), "b": (2, 4)})
JOB = Job(DOT, CHIP, {"mul": "mulld", "mul.1": "get", "sum": "add"})
STARTS = {"mul": 3, "mul.1": 0, "sum": 7}
FAR = 10**25


def draw_lives(random, keys=6, spread=9):
    interval = random.randint(1, 6)
    rows = {}
    for key in random.sample(["a", "b.0", "c:1", "mul.0:2", "9", "z"], random.randint(0, keys)):
        begin = random.randint(-spread, spread)
        rows[key] = (begin, begin + random.randint(1, random.choice((2, interval, 2 * interval + 1))))
    return Lives(interval, rows)


def second_alive(lives, tick, names):
    """The pairs (key, round) that are alive in a tick, by many rounds."""
    rows = []
    for key in names:
        begin, end = lives.rows[key]
        for number in range(-40, 41):
            if begin + lives.interval * number <= tick < end + lives.interval * number:
                rows.append((key, number))
    return sorted(rows)


def second_across(lives, moment, names):
    return [row for row in second_alive(lives, moment, names) if row in second_alive(lives, moment - 1, names)]


def second_most(lives, names):
    return max(len(second_alive(lives, tick, names)) for tick in range(lives.interval))


def second_apart(lives, names):
    others = [key for key in lives.rows if key not in names]
    if not names or not others:
        return False
    for moment in range(lives.interval):
        full = [len(second_across(lives, moment, some)) == second_most(lives, some) for some in (names, others)]
        if not any(full):
            return False
    return True


class CountedTest(unittest.TestCase):
    def test_counts(self):
        random = seeded(740)
        for _ in range(200):
            lives = draw_lives(random)
            keys = sorted(lives.rows)
            self.assertEqual((lives.names, list(lives), len(lives)), (tuple(keys), keys, len(keys)))
            self.assertEqual(list(lives.rows), keys)
            self.assertEqual(lives.most, second_most(lives, keys))
            self.assertEqual(lives.total, sum(end - begin for begin, end in lives.rows.values()))
            for _ in range(5):
                tick = random.randint(-20, 20)
                some = random.sample(keys, random.randint(0, len(keys)))
                names = [*some, *random.choices(some, k=random.randint(0, 2))] if some else []
                counted = some if some else keys
                self.assertEqual(lives.alive(tick, *names), len(second_alive(lives, tick, counted)))
                self.assertEqual(lives.across(tick, *names), len(second_across(lives, tick, counted)))
                full = len(second_across(lives, tick, counted)) == second_most(lives, counted)
                self.assertIs(lives.is_full(tick, *names), full)
                self.assertEqual(lives.most_of(*names), second_most(lives, some))
                told = list(lives.each_alive(tick))
                self.assertEqual(told, second_alive(lives, tick, keys))
                self.assertTrue(ascending(told))

    def test_keys_that_are_apart(self):
        random = seeded(741)
        told = {True: 0, False: 0}
        for _ in range(900):
            interval = random.randint(1, 4)
            begins = [random.randint(-3, 3) for _ in range(random.choice((2, 2, 3)))]
            rows = {"abc"[k]: (begin, begin + random.choice((1, interval, interval))) for k, begin in enumerate(begins)}
            lives = Lives(interval, rows)
            keys = sorted(lives.rows)
            some = random.sample(keys, random.randint(0, len(keys)))
            apart = second_apart(lives, some)
            told[apart] += 1
            self.assertIs(lives.is_apart(*some), apart)
            self.assertIs(lives.is_apart(*some, *some), apart)
        self.assertGreater(min(told.values()), 40)

    def test_long_lives(self):
        lives = Lives(3, {"a": (-FAR, FAR), "b": (0, 1)})
        self.assertEqual((lives.alive(0), lives.alive(0, "b"), lives.most), (2 * FAR // 3 + 2, 1, 2 * FAR // 3 + 2))
        self.assertEqual(lives.across(0, "a"), (2 * FAR + 1) // 3)
        self.assertEqual(lives.total, 2 * FAR + 1)
        rows = lives.each_alive(0)
        self.assertEqual([next(rows) for _ in range(2)], [("a", -(FAR // 3)), ("a", 1 - FAR // 3)])
        wide = 10**30 - 1
        self.assertEqual(Lives(1, {"a": (-wide, wide)}).most, 2 * wide)
        self.assertEqual(Lives(32, {"a": (wide - 1, wide)}).alive(wide - 1), 1)
        self.assertEqual(Lives(32, {"a": (wide - 1, wide)}).alive(-wide), int((2 * wide - 1) % 32 == 0))

    def test_by_few_ticks_of_a_long_life(self):
        random = seeded(742)
        for _ in range(100):
            lives = draw_lives(random)
            turns = {key: random.randint(0, 10**20) for key in lives}
            rows = {key: (begin, end + lives.interval * turns[key]) for key, (begin, end) in lives.rows.items()}
            long = Lives(lives.interval, rows)
            more = sum(turns.values())
            for tick in range(lives.interval):
                self.assertEqual(long.alive(tick), lives.alive(tick) + more)
            self.assertEqual(long.most, lives.most + more)


def far_off(random, lives):
    """The lives with each life moved and made longer by great multiples of the interval, and by how many values."""
    rows, more = {}, {}
    for key, (begin, end) in lives.rows.items():
        away, more[key] = random.choice((-1, 1)) * random.randint(10**20, 10**25), random.randint(0, 10**22)
        rows[key] = (begin + lives.interval * away, end + lives.interval * (away + more[key]))
    return Lives(lives.interval, rows), more


class CountsTest(unittest.TestCase):
    def test_each_slot(self):
        random = seeded(746)
        for _ in range(200):
            lives = draw_lives(random)
            keys = list(lives)
            counts = [len(second_alive(lives, slot, keys)) for slot in range(lives.interval)]
            self.assertEqual(alive_counts(list(lives.rows.values()), lives.interval), counts)
            long, more = far_off(random, lives)
            great = [count + sum(more.values()) for count in counts]
            self.assertEqual(alive_counts(list(long.rows.values()), lives.interval), great)
            self.assertEqual([long.alive(tick) for tick in range(lives.interval)], great)
            self.assertEqual(long.most, max(great))

    def test_by_hand(self):
        self.assertEqual(alive_counts([], 3), [0, 0, 0])
        self.assertEqual(alive_counts([(0, 2), (1, 4)], 3), [2, 2, 1])
        self.assertEqual(alive_counts([(-1, 1)], 4), [1, 0, 0, 1])
        self.assertEqual(alive_counts([(5, 6)], 1), [1])
        self.assertEqual(alive_counts([(0, 9)], 2), [5, 4])
        self.assertEqual(alive_counts([(10**30 - 2, 10**30 - 1)], 32), [0] * 30 + [1, 0])

    def test_counts_are_made_anew(self):
        rows = [(0, 2), (1, 4)]
        alive_counts(rows, 3).clear()
        self.assertEqual((rows, alive_counts(rows, 3)), ([(0, 2), (1, 4)], [2, 2, 1]))

    def test_far_off(self):
        random = seeded(747)
        told = {"alive": 0, "apart": 0, "bases": 0}
        for _ in range(900):
            lives = draw_lives(random, keys=4)
            long, more = far_off(random, lives)
            for _ in range(3):
                some, moment = random.sample(list(lives), random.randint(0, len(lives))), random.randint(-9, 9)
                known = sum(more[key] for key in some)
                self.assertEqual(long.most_of(*some), lives.most_of(*some) + known)
                self.assertIs(long.is_full(moment, *some), lives.is_full(moment, *some))
                self.assertIs(long.is_apart(*some), lives.is_apart(*some))
                if some:
                    self.assertEqual(long.alive(moment, *some), lives.alive(moment, *some) + known)
                    self.assertEqual(long.across(moment, *some), lives.across(moment, *some) + known)
            self.assertEqual(least_registers(long), least_registers(lives) + sum(more.values()))
            short = Lives(lives.interval, {
                key: (begin, end - lives.interval * more[key]) for key, (begin, end) in long.rows.items()
            })
            for registers in range(lives.most + 2):
                paper = file_paper(short, registers)
                told[paper[0]] += 1
                self.assertIs(is_file_paper(short, registers, paper), True)
                if paper[0] == "alive":
                    self.assertGreater(short.alive(paper[1]), registers)
                    self.assertIs(is_file_paper(long, registers, paper), True)
        self.assertGreater(min(told.values()), 9)


class OperatorsTest(unittest.TestCase):
    def test_far_off(self):
        random = seeded(748)
        for _ in range(150):
            lives = draw_lives(random)
            long, more = far_off(random, lives)
            ticks = random.choice((-1, 1)) * random.randint(10**20, 10**26)
            later = long + ticks
            self.assertEqual(later.rows, {key: (begin + ticks, end + ticks) for key, (begin, end) in long.rows.items()})
            self.assertEqual((later.interval, later.total), (lives.interval, long.total))
            self.assertEqual(later.most, lives.most + sum(more.values()))
            some = tuple(sorted(random.sample(list(lives), random.randint(0, len(lives)))))
            left, others = long & some, long & tuple(key for key in lives if key not in some)
            self.assertEqual(left.rows, {key: long[key] for key in some})
            self.assertEqual(left.most, lives.most_of(*some) + sum(more[key] for key in some))
            self.assertEqual((left | others, others | left), (long, long))
            self.assertEqual(((left | others).most, (left | others).total), (long.most, left.total + others.total))
            for tick in (0, 1, -7, 10**27, -(10**27)):
                self.assertEqual(later.alive(tick + ticks), long.alive(tick))
                self.assertEqual(left.alive(tick) + others.alive(tick), long.alive(tick))
            for key in some:
                self.assertEqual(later.most_of(key), long.most_of(key))
                self.assertEqual(left.most_of(key), lives.most_of(key) + more[key])

    def test_they_change_nothing(self):
        one, other = Lives(3, {"b": (0, 2), "a": (FAR, 2 * FAR)}), Lives(3, {"c": (-1, 1)})
        before = [(row.rows, row.names, row.most, row.total, row.interval) for row in (one, other)]
        results = [one + 5, one | other, one & ("b",)]
        for row in results:
            row.rows.clear()
        for call in (lambda: one + None, lambda: one | one, lambda: one & ("c",)):
            refused(self, InvalidArgument, call)
        self.assertEqual([(row.rows, row.names, row.most, row.total, row.interval) for row in (one, other)], before)
        self.assertEqual(results, [one + 5, one | other, one & ("b",)])

    def test_later(self):
        random = seeded(743)
        for _ in range(60):
            lives, ticks = draw_lives(random), random.randint(-50, 50)
            later = lives + ticks
            self.assertEqual(later.rows, {key: (begin + ticks, end + ticks) for key, (begin, end) in lives.rows.items()})
            for tick in range(-5, 5):
                self.assertEqual(later.alive(tick + ticks), lives.alive(tick))
            self.assertEqual((later.interval, later.most), (lives.interval, lives.most))
            self.assertEqual(later + -ticks, lives)
        wide = 10**30 - 1
        self.assertEqual((PAIR + (wide - 4)).rows["b"], (wide - 2, wide))
        for value in odd_values():
            if type(value) is not int or abs(value) > wide or value == wide:
                refused(self, InvalidArgument, lambda: PAIR + value)
        refused(self, InvalidArgument, lambda: PAIR + (wide - 3))
        refused(self, InvalidArgument, lambda: Lives(1, {"a": (-5, 1)}) + -wide)
        self.assertEqual(Lives(2, {}) + wide, Lives(2, {}))

    def test_both(self):
        one, other = Lives(2, {"b": (0, 1)}), Lives(2, {"a": (5, 9), "c": (0, 3)})
        self.assertEqual(one | other, Lives(2, {"a": (5, 9), "b": (0, 1), "c": (0, 3)}))
        self.assertEqual(list((one | other).rows), ["a", "b", "c"])
        for value in [*odd_values(), Lives(3, {"z": (0, 1)}), Lives(2, {"b": (7, 8)}), one]:
            refused(self, InvalidArgument, lambda: one | value)
        refused(self, InvalidArgument, lambda: Lives(2, {"b": (0, 1), "d": (0, 1)}) | Lives(2, {"b": (0, 1), "e": (0, 1)}))
        wide = Lives(2, {f"k{k}": (0, 1) for k in range(47)})
        self.assertEqual(len(wide | one), 48)
        refused(self, InvalidArgument, lambda: wide | other)
        self.assertEqual((one | Lives(2, {}), one.names), (one, ("b",)))

    def test_some(self):
        self.assertEqual(PAIR & ("b",), Lives(2, {"b": (2, 4)}))
        self.assertEqual((PAIR & (), PAIR & ("a", "b")), (Lives(2, {}), PAIR))
        rows = [("b", "a"), ("a", "a"), ("a", "c"), ["a"], "a", ("a", None), ({},), ("a", "b", "b")]
        for value in [value for value in odd_values() if value != ()] + rows:
            refused(self, InvalidArgument, lambda: PAIR & value)

    def test_turned(self):
        random = seeded(744)
        for _ in range(60):
            lives = draw_lives(random)
            turned = lives.turned()
            self.assertEqual(turned.rows, {key: (-end, -begin) for key, (begin, end) in lives.rows.items()})
            self.assertEqual(turned.turned(), lives)
            for tick in range(-4, 4):
                self.assertEqual(turned.alive(-1 - tick), lives.alive(tick))


class ObjectTest(unittest.TestCase):
    def test_object(self):
        self.assertEqual(str(PAIR), "lives of 2 keys, interval 2")
        self.assertEqual((PAIR["a"], PAIR["b"]), ((1, 3), (2, 4)))
        self.assertEqual(PAIR, Lives(2, {"b": (2, 4), "a": (1, 3)}))
        for value in (Lives(3, PAIR.rows), Lives(2, {"a": (1, 3)}), Lives(2, {"a": (1, 3), "b": (2, 5)}), PAIR.rows, None):
            self.assertNotEqual(PAIR, value)
        for value in odd_values():
            if value != "a":
                self.assertIs(value in PAIR, False)
                refuses_name(self, value, PAIR.__getitem__, value)
        self.assertIs("b" in PAIR, True)

    def test_nothing_gives_access_to_the_state(self):
        rows = {"b": (2, 4), "a": (1, 3)}
        lives = Lives(2, rows)
        rows["c"] = (0, 1)
        lives.rows.clear()
        self.assertEqual(lives, PAIR)
        self.assertEqual((lives.interval, lives.names, lives.most, lives.total), (2, ("a", "b"), 2, 4))

    def test_no_keys(self):
        none = Lives(32, {})
        self.assertEqual((none.most, none.total, none.names, none.alive(5), none.across(5)), (0, 0, (), 0, 0))
        self.assertIs(none.is_full(3), True)
        self.assertIs(none.is_apart(), False)
        self.assertEqual((none.most_of(), list(none.each_alive(0)), str(none)), (0, [], "lives of 0 keys, interval 32"))

    def test_none_and_all_keys(self):
        self.assertEqual((PAIR.most_of(), PAIR.most_of("a"), PAIR.most_of("a", "b", "a")), (0, 1, 2))
        self.assertIs(PAIR.is_apart(), False)
        self.assertIs(PAIR.is_apart("a", "b"), False)
        self.assertIs(PAIR.is_apart("a"), True)
        self.assertIs(PAIR.is_full(2), False)
        self.assertIs(Lives(1, {"a": (0, 1)}).is_full(0), False)


class WrongArgumentsTest(unittest.TestCase):
    def test_intervals(self):
        for value in odd_values():
            if type(value) is not int or not 1 <= value <= 32:
                refuses_number(self, value, Lives, value, None)
        self.assertEqual([Lives(interval, {"a": (0, 1)}).interval for interval in (1, 32)], [1, 32])

    def test_rows(self):
        wide = 10**30
        for value in odd_values():
            if value not in ({},):
                refused(self, InvalidLives, Lives, 2, value)
            refused(self, InvalidLives, Lives, 2, {"a": value} if value != (0, 1) else None)
            if not isinstance(value, (list, dict)) and not (isinstance(value, str) and value in ("a", "a1", "a.0", ".", "a.", "a.3", "a.00", "abcdefghi")):
                try:
                    hash(value)
                except TypeError:
                    continue
                refused(self, InvalidLives, Lives, 2, {value: (0, 1)})
        for life in ((0, 0), (1, 0), (0, wide), (-wide, 0), (0, True), (False, 1), (0, 1, 2), [0, 1], (None, 1)):
            refused(self, InvalidLives, Lives, 2, {"a": life})
        for key in ("", "A", "a b", "a-", "a\n", "x" * 31, "_"):
            refused(self, InvalidLives, Lives, 2, {key: (0, 1)})
        for key in ("a", "9", ".", ":", "x" * 30, "mul.0:2"):
            self.assertIn(key, Lives(2, {key: (0, 1)}))
        many = {f"k{k}": (0, 1) for k in range(48)}
        self.assertEqual(len(Lives(2, many)), 48)
        refused(self, InvalidLives, Lives, 2, {**many, "z": (0, 1)})

    def test_ticks_and_names(self):
        for value in odd_values():
            if type(value) is not int or abs(value) >= 10**30:
                for call in (PAIR.alive, PAIR.across, PAIR.is_full):
                    refuses_number(self, value, call, value, "q")
                refuses_number(self, value, lambda: next(PAIR.each_alive(value)))
            if value != "a":
                for call in (PAIR.alive, PAIR.across, PAIR.is_full):
                    refuses_name(self, value, call, 0, "a", value, "q")
                for call in (PAIR.most_of, PAIR.is_apart):
                    refuses_name(self, value, call, "a", value, "q")


class JobsTest(unittest.TestCase):
    def reads(self, job, text):
        """The (operation, distance) that read the value of an operation: by the trees of the body."""
        rows = []
        for reader in job.operations:
            covered = [
                node for node in job.body.operations
                if node == reader or (node.startswith(reader + ".") and self.owner(job, node) == reader)
            ]
            for node in covered:
                tree = job.body.tree(node)
                below = [tree[5]] if tree[0] == "store" else list(tree[2:]) if tree[0] == "op" else []
                for place, part in enumerate(below):
                    if part[0] == "at":
                        rows += [(reader, part[2])] if part[1] == text else []
                    elif f"{node}.{place}" == text:
                        rows.append((reader, 0))
        return rows

    def owner(self, job, node):
        while node not in job:
            node = node.rpartition(".")[0]
        return node

    def test_drawn_jobs(self):
        random = seeded(745)
        unread, done = 0, 0
        for _ in range(150):
            job, interval = draw_job(random), random.randint(1, 8)
            starts = fitting_starts(random, job, interval)
            if starts is None:
                continue
            done += 1
            lives = lives_of(job, interval, starts)
            self.assertEqual((lives.names, lives.interval), (job.valued, interval))
            for text in job.valued:
                begin = starts[text] + job.ticks(text)
                ticks = [starts[reader] + interval * distance for reader, distance in self.reads(job, text)]
                unread += not ticks
                self.assertEqual(lives[text], (begin, max([begin, *ticks]) + 1))
        self.assertGreater(done, 60)
        self.assertGreater(unread, 20)

    def test_the_example(self):
        lives = lives_of(JOB, 2, STARTS)
        self.assertEqual(lives.rows, {"mul": (6, 8), "mul.1": (2, 4), "sum": (8, 10)})
        self.assertEqual((lives.most, least_registers(lives)), (3, 3))
        self.assertEqual(path_of("mul.1"), ("mul", (1,)))

    def test_wrong_arguments(self):
        for value in odd_values():
            if not isinstance(value, Job):
                refused(self, InvalidJob, lives_of, value, 0, None)
            if type(value) is not int or not 1 <= value <= 32:
                refuses_number(self, value, lives_of, JOB, value, None)
            refused(self, InvalidArgument, lives_of, JOB, 2, value)
        refused(self, InvalidArgument, lives_of, JOB, 2, {**STARTS, "sum": 5})
        refused(self, InvalidArgument, lives_of, JOB, 2, {**STARTS, "mul.0": 5})


if __name__ == "__main__":
    unittest.main()
