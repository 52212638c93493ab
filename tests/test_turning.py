"""Files that turn: bases by force, papers and least numbers of registers, and what registers hold."""

import unittest
from itertools import combinations, product

from loopfoundry.errors import InvalidArgument, InvalidLives
from loopfoundry.files.lives import Lives, lives_of
from loopfoundry.files.turning import file_paper, held, is_bases, is_file_paper, least_registers
from tests.helpers import (
    draw_job,
    fitting_starts,
    odd_values,
    refused,
    refuses_number,
    seeded,
)

PAIR = Lives(2, {"a": (1, 3), "b": (2, 4)})
KEYS = ("a", "b.0", "c:1", "d", "e")


def draw_lives(random, keys=4, most=6):
    interval = random.randint(1, 4)
    rows = {}
    for key in KEYS[: random.randint(0, keys)]:
        begin = random.randint(-6, 6)
        rows[key] = (begin, begin + random.randint(1, most))
    return Lives(interval, rows)


def second_bases(lives, registers, bases):
    """Whether no two values that are alive in one tick share a register, by many rounds and ticks."""
    for tick in range(lives.interval):
        seen = set()
        for key, (begin, end) in lives.rows.items():
            for number in range(-30, 31):
                if begin + lives.interval * number <= tick < end + lives.interval * number:
                    place = (bases[key] + number) % registers
                    if place in seen:
                        return False
                    seen.add(place)
    return True


def second_least(lives):
    """The least number of registers with bases, by force."""
    registers = 0
    while True:
        for row in product(range(registers), repeat=len(lives)):
            if second_bases(lives, registers, dict(zip(lives.names, row))):
                return registers
        registers += 1


def all_apart(lives):
    return [
        names for many in range(1, len(lives)) for names in combinations(lives.names, many) if lives.is_apart(*names)
    ]


class DrawnFilesTest(unittest.TestCase):
    def test_exactly_one_paper(self):
        random = seeded(760)
        kinds = {"bases": 0, "alive": 0, "apart": 0}
        for _ in range(250):
            lives = draw_lives(random, keys=3, most=5)
            least = second_least(lives)
            self.assertEqual(least_registers(lives), least)
            self.assertIn(least, (lives.most, lives.most + 1))
            apart = all_apart(lives)
            for registers in range(8):
                kind, told = paper = file_paper(lives, registers)
                kinds[kind] += 1
                self.assertIs(is_file_paper(lives, registers, paper), True)
                self.assertEqual(kind == "bases", registers >= least)
                self.assertEqual(kind == "alive", registers < lives.most)
                if kind == "bases":
                    self.assertTrue(second_bases(lives, registers, told))
                    self.assertEqual(list(told), list(lives.names))
                for slot in range(lives.interval):
                    many = lives.alive(slot) > registers
                    self.assertIs(is_file_paper(lives, registers, ("alive", slot)), many)
                for names in apart:
                    self.assertIs(is_file_paper(lives, registers, ("apart", names)), registers == lives.most)
                self.assertEqual(bool(apart) and registers == lives.most, kind == "apart")
        self.assertGreater(min(kinds.values()), 6)

    def test_all_bases(self):
        random = seeded(761)
        told = {True: 0, False: 0}
        for _ in range(80):
            lives, registers = draw_lives(random, keys=3, most=5), random.randint(1, 4)
            for row in product(range(registers), repeat=len(lives)):
                bases = dict(zip(lives.names, row))
                right = second_bases(lives, registers, bases)
                told[right] += 1
                self.assertIs(is_bases(lives, registers, bases), right)
                self.assertIs(is_file_paper(lives, registers, ("bases", bases)), right)
        self.assertGreater(min(told.values()), 50)

    def test_greater_files(self):
        random = seeded(762)
        apart = 0
        for _ in range(400):
            lives = Lives(
                random.randint(1, 9),
                {f"k{k}": (begin, begin + random.randint(1, 9)) for k, begin in enumerate(random.choices(range(20), k=8))},
            )
            for registers in range(25):
                kind, told = paper = file_paper(lives, registers)
                self.assertIs(is_file_paper(lives, registers, paper), True)
                apart += kind == "apart"
                if kind == "bases":
                    self.assertTrue(second_bases(lives, registers, told))
                self.assertEqual(kind == "bases", registers >= least_registers(lives))
        self.assertGreater(apart, 2)

    def test_what_stays(self):
        random = seeded(763)
        for _ in range(150):
            lives = draw_lives(random, keys=5)
            least = least_registers(lives)
            self.assertEqual(least_registers(lives + random.randint(-9, 9)), least)
            self.assertEqual(least_registers(lives.turned()), least)
            if not len(lives):
                continue
            key = random.choice(lives.names)
            begin, end = lives[key]
            ticks = lives.interval * random.randint(-3, 3)
            self.assertEqual(least_registers(Lives(lives.interval, {**lives.rows, key: (begin + ticks, end + ticks)})), least)
            longer = Lives(lives.interval, {**lives.rows, key: (begin, end + lives.interval)})
            self.assertEqual(least_registers(longer), least + 1)
            less = [name for name in lives.names if name != key]
            self.assertLessEqual(least_registers(lives & tuple(less)), least)
            if end - begin > 1:
                self.assertLessEqual(least_registers(Lives(lives.interval, {**lives.rows, key: (begin + 1, end)})), least)
                middle = random.randint(begin + 1, end - 1)
                parted = {**lives.rows, key: (begin, middle), "new": (middle, end)}
                self.assertLessEqual(least_registers(Lives(lives.interval, parted)), least)

    def test_held(self):
        random = seeded(764)
        for _ in range(120):
            lives = draw_lives(random)
            registers = least_registers(lives) + random.randint(0, 2)
            if registers > 24:
                continue
            bases = file_paper(lives, registers)[1]
            for tick in range(-6, 7):
                row = [None] * registers
                for key, number in lives.each_alive(tick):
                    place = (bases[key] + number) % registers
                    self.assertIsNone(row[place])
                    row[place] = (key, number)
                self.assertEqual(held(lives, registers, bases, tick), tuple(row))

    def test_runs_of_jobs_find_their_values(self):
        random, done = seeded(765), 0
        while done < 60:
            job, interval = draw_job(random, limit=10), random.randint(1, 8)
            starts = fitting_starts(random, job, interval)
            if starts is None:
                continue
            lives = lives_of(job, interval, starts)
            registers = least_registers(lives)
            if not 1 <= registers <= 24:
                continue
            done += 1
            bases = file_paper(lives, registers)[1]
            file, events = [None] * registers, []
            for number in range(-3, 8):
                for text in job.operations:
                    tick = starts[text] + interval * number
                    events.append((tick, 1, text, number))
                    if text in job.valued:
                        events.append((tick + job.ticks(text), 0, text, number))
            for _, kind, text, number in sorted(events):
                if kind == 0:
                    file[(bases[text] + number) % registers] = (text, number)
                elif number >= 0:
                    for source, distance in job.operands(text):
                        place = (bases[source] + number - distance) % registers
                        self.assertEqual(file[place], (source, number - distance))


class EdgesTest(unittest.TestCase):
    def test_no_keys(self):
        none = Lives(7, {})
        self.assertEqual((least_registers(none), file_paper(none, 0), file_paper(none, 24)), (0, ("bases", {}), ("bases", {})))
        self.assertIs(is_bases(none, 0, {}), True)
        self.assertEqual((held(none, 0, {}, 5), held(none, 3, {}, 5)), ((), (None, None, None)))
        self.assertIs(is_file_paper(none, 0, ("apart", ())), False)
        self.assertIs(is_file_paper(none, 0, ("alive", 0)), False)

    def test_0_and_24_registers(self):
        one = Lives(1, {"a": (0, 24)})
        self.assertEqual(file_paper(one, 24), ("bases", {"a": 0}))
        self.assertEqual((file_paper(one, 23), file_paper(one, 0)), (("alive", 0), ("alive", 0)))
        self.assertEqual(least_registers(one), 24)
        self.assertIs(is_bases(one, 24, {"a": 23}), True)
        self.assertIs(is_bases(one, 23, {"a": 0}), False)
        self.assertIs(is_bases(one, 0, {"a": 0}), False)
        self.assertEqual(file_paper(Lives(1, {"a": (0, 25)}), 24), ("alive", 0))

    def test_48_keys(self):
        wide = Lives(32, {f"k{k}": (2 * k, 2 * k + 16) for k in range(48)})
        self.assertEqual(wide.most, 24)
        paper = file_paper(wide, 24)
        self.assertIs(is_file_paper(wide, 24, paper), True)
        far = Lives(32, {f"k{k}": (k * 5, k * 5 + 1 + k % 9) for k in range(48)})
        for registers in range(25):
            self.assertIs(is_file_paper(far, registers, file_paper(far, registers)), True)

    def test_long_lives(self):
        far = 2 * 10**20
        long = Lives(2, {"a": (1, 3 + far), "b": (2, 4)})
        self.assertEqual(least_registers(long), far // 2 + 3)
        self.assertEqual(file_paper(long, 24), ("alive", 0))
        moved = Lives(2, {"a": (1 - far, 3 - far), "b": (2 + far, 4 + far)})
        self.assertEqual((least_registers(moved), file_paper(moved, 2)[0]), (3, "apart"))
        self.assertIs(is_file_paper(moved, 2, ("apart", ("a",))), True)
        kind, bases = file_paper(moved, 3)
        self.assertEqual(kind, "bases")
        self.assertIs(is_bases(moved, 3, bases), True)
        wide = 10**30 - 1
        self.assertEqual(least_registers(Lives(1, {"a": (-wide, wide), "b": (0, 1)})), 2 * wide + 1)

    def test_a_life_of_one_turn(self):
        two = Lives(3, {"a": (0, 3), "b": (0, 3)})
        self.assertEqual((least_registers(two), file_paper(two, 2)[0]), (2, "bases"))
        self.assertEqual(least_registers(Lives(3, {"a": (0, 3), "b": (1, 4)})), 3)
        self.assertEqual(least_registers(Lives(3, {"a": (0, 2), "b": (1, 4)})), 3)
        self.assertEqual(least_registers(Lives(3, {"a": (0, 2), "b": (1, 3)})), 2)


class BentPapersTest(unittest.TestCase):
    def test_bases(self):
        three = {"a": 0, "b": 2}
        self.assertIs(is_bases(PAIR, 3, three), True)
        bent = [{"a": 0}, {**three, "c": 1}, {"a": 0, "b": 3}, {"a": -1, "b": 1}, {"a": False, "b": 2}, {"a": 0, "b": 0}]
        for value in [*odd_values(), *bent, {"a": None, "b": 2}, {"a": 0, "c": 2}, [("a", 0), ("b", 2)]]:
            self.assertIs(is_bases(PAIR, 3, value), False, value)
            self.assertIs(is_file_paper(PAIR, 3, ("bases", value)), False)
            self.assertIs(is_file_paper(PAIR, 3, value), False)
            refused(self, InvalidArgument, held, PAIR, 3, value, None)
        self.assertIs(is_file_paper(PAIR, 3, ("bases", three, ())), False)
        self.assertIs(is_file_paper(PAIR, 3, ["bases", three]), False)

    def test_slots_and_keys(self):
        self.assertIs(is_file_paper(PAIR, 1, ("alive", 1)), True)
        for slot in (2, -1, True, None, "1", 1.5):
            self.assertIs(is_file_paper(PAIR, 1, ("alive", slot)), False)
        self.assertIs(is_file_paper(PAIR, 2, ("alive", 1)), False)
        for names in (("a",), ("b",)):
            self.assertIs(is_file_paper(PAIR, 2, ("apart", names)), True)
            self.assertIs(is_file_paper(PAIR, 3, ("apart", names)), False)
            self.assertIs(is_file_paper(PAIR, 1, ("apart", names)), False)
            self.assertIs(is_file_paper(PAIR, 2, ("part", names)), False)
        for names in (("a", "b"), (), ("a", "a"), ["a"], "a", ("c",), (None,), ({},), ("b", "a")):
            self.assertIs(is_file_paper(PAIR, 2, ("apart", names)), False)


class WrongArgumentsTest(unittest.TestCase):
    def test_nothing_is_changed(self):
        bases = {"b": 2, "a": 0}
        refuses_number(self, None, held, PAIR, 3, bases, None)
        refuses_number(self, 25, is_bases, PAIR, 25, bases)
        held(PAIR, 3, bases, 0)
        self.assertEqual((list(bases.items()), PAIR), ([("b", 2), ("a", 0)], Lives(2, {"a": (1, 3), "b": (2, 4)})))

    def test_arguments(self):
        for value in odd_values():
            if not isinstance(value, Lives):
                refused(self, InvalidLives, is_bases, value, -1, None)
                refused(self, InvalidLives, file_paper, value, -1)
                refused(self, InvalidLives, is_file_paper, value, -1, None)
                refused(self, InvalidLives, least_registers, value)
                refused(self, InvalidLives, held, value, -1, None, None)
            if type(value) is not int or not 0 <= value <= 24:
                refuses_number(self, value, is_bases, PAIR, value, None)
                refuses_number(self, value, file_paper, PAIR, value)
                refuses_number(self, value, is_file_paper, PAIR, value, None)
                refuses_number(self, value, held, PAIR, value, None, None)
            if type(value) is not int or abs(value) >= 10**30:
                refuses_number(self, value, held, PAIR, 3, {"a": 0, "b": 2}, value)


if __name__ == "__main__":
    unittest.main()
