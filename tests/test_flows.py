"""What loads find, held against a memory that is walked round by round."""

import unittest

from loopfoundry.errors import InvalidArgument, InvalidBody
from loopfoundry.memory.flows import flows, found_by, settled, writer_of
from loopfoundry.source.bodies import Body
from tests.helpers import (
    DOT,
    PAIRS,
    ascending,
    draw_body,
    odd_values,
    refused,
    refuses_name,
    refuses_number,
    seeded,
)

WIDE = 10**30 - 1
LIMIT = 60


def places(body):
    """All stores and loads in the order of a round: (is store, text, array, step, offset)."""
    rows = []
    for row in body.statements:
        rows += [(False, *load) for load in body.loads if load[0].split(".")[0] == row[1]]
        if row[0] == "store":
            rows.append((True, *row[1:5]))
    return rows


def walk(body, rounds):
    """Who wrote each cell at the end, and what each load finds in each round."""
    memory, found = {}, {}
    for number in range(rounds):
        for is_store, text, array, step, offset in places(body):
            at = (array, step * number + offset)
            if is_store:
                assert at not in memory
                memory[at] = (text, number)
            else:
                found[text, number] = memory.get(at)
    return memory, found


def second_flows(body, first, rounds):
    """The least distances, by all pairs of rounds."""
    rows = places(body)
    least = {}
    for k, (is_store, store, array, step, offset) in enumerate(rows):
        for m, (is_other, load, other, load_step, load_offset) in enumerate(rows):
            if not is_store or is_other or array != other:
                continue
            cells = {load_step * j + load_offset: [] for j in range(first, rounds)}
            for j in range(first, rounds):
                cells[load_step * j + load_offset].append(j)
            for i in range(first, rounds):
                for j in cells.get(step * i + offset, ()):
                    kind = "flow" if j > i or (i == j and k < m) else "anti"
                    at = (kind, store, load)
                    least[at] = min(abs(i - j), least.get(at, abs(i - j)))
    return tuple(sorted((*at, distance) for at, distance in least.items()))


class DrawnBodiesTest(unittest.TestCase):
    def bodies(self, number, many):
        random = seeded(number)
        while many:
            body = draw_body(random, levels=3, spread=5)
            if body.stores and body.loads:
                many -= 1
                yield random, body

    def test_flows(self):
        met = 0
        for random, body in self.bodies(20, 150):
            told = flows(body)
            met += len(told)
            self.assertEqual(told, second_flows(body, 0, LIMIT))
            self.assertTrue(ascending(told) and isinstance(told, tuple))
            for _ in range(4):
                first, rounds = random.randint(0, 9), random.randint(0, 20)
                self.assertEqual(flows(body, first=first, rounds=rounds), second_flows(body, first, rounds))
                self.assertEqual(flows(body, rounds=rounds), second_flows(body, 0, rounds))
            self.assertEqual(flows(body, first=first), second_flows(body, first, LIMIT))
        self.assertGreater(met, 150)

    def test_settled(self):
        late = 0
        for _, body in self.bodies(21, 120):
            same = [second_flows(body, 0, rounds) == flows(body) for rounds in range(LIMIT)]
            least = max([rounds + 1 for rounds in range(LIMIT) if not same[rounds]], default=0)
            self.assertEqual(settled(body), least)
            late += least > 2
        self.assertGreater(late, 20)

    def test_findings_and_writers(self):
        for random, body in self.bodies(22, 120):
            memory, found = walk(body, 20)
            for (load, number), writer in found.items():
                self.assertEqual(found_by(body, load, number), writer)
            for array in body.arrays:
                for cell in range(-30, 30):
                    told = writer_of(body, array, cell, rounds=20)
                    self.assertEqual(told, memory.get((array, cell)))
                    always = writer_of(body, array, cell)
                    if always is not None and always[1] < 20:
                        self.assertEqual(told, always)
                    rounds = random.randint(0, 20)
                    wanted = told if told is not None and told[1] < rounds else None
                    self.assertEqual(writer_of(body, array, cell, rounds=rounds), wanted)

    def test_flows_are_what_is_found(self):
        for _, body in self.bodies(23, 60):
            _, found = walk(body, LIMIT)
            least = {}
            for (load, number), writer in found.items():
                if writer is not None:
                    at = ("flow", writer[0], load)
                    least[at] = min(number - writer[1], least.get(at, LIMIT))
            told = tuple(sorted((*at, distance) for at, distance in least.items()))
            self.assertEqual(tuple(row for row in flows(body, rounds=LIMIT) if row[0] == "flow"), told)


class EdgesTest(unittest.TestCase):
    def test_order_in_a_round(self):
        load = ("load", "x", 1, 0)
        own = Body(("store", "s", "x", 1, 0, load))
        self.assertEqual(flows(own), (("anti", "s", "s.0", 0),))
        self.assertIsNone(found_by(own, "s.0", 5))
        ahead = Body(("store", "s", "x", 1, 0, ("op", "h")), ("set", "a", load))
        self.assertEqual(flows(ahead), (("flow", "s", "a", 0),))
        self.assertEqual(found_by(ahead, "a", 5), ("s", 5))
        behind = Body(("set", "a", load), ("store", "s", "x", 1, 0, ("op", "h")))
        self.assertEqual(flows(behind), (("anti", "s", "a", 0),))
        self.assertIsNone(found_by(behind, "a", 5))

    def test_far_away(self):
        far = 10**29
        body = Body(("store", "s", "x", 1, 0, ("op", "f", ("load", "x", 2, -far))))
        self.assertEqual(flows(body), (("anti", "s", "s.0.0", 0), ("flow", "s", "s.0.0", 1)))
        self.assertEqual(settled(body), far + 1)
        self.assertEqual(flows(body, rounds=far), (("flow", "s", "s.0.0", 1),))
        self.assertEqual(flows(body, rounds=far - 1), (("flow", "s", "s.0.0", 2),))
        self.assertEqual(flows(body, first=far), (("anti", "s", "s.0.0", 0),))
        self.assertEqual(flows(body, first=far + 1), (("anti", "s", "s.0.0", 1),))
        self.assertEqual(flows(body, rounds=far // 2), ())
        self.assertEqual(flows(body, rounds=far // 2 + 1), (("flow", "s", "s.0.0", far // 2),))
        self.assertEqual(found_by(body, "s.0.0", far - 1), ("s", far - 2))
        self.assertIsNone(found_by(body, "s.0.0", far))
        self.assertIsNone(found_by(body, "s.0.0", far // 2 - 1))
        self.assertEqual(found_by(body, "s.0.0", far // 2), ("s", 0))

    def test_never(self):
        body = Body(("store", "s", "x", 2, 0, ("op", "f", ("load", "x", 4, 1))))
        self.assertEqual((flows(body), settled(body)), ((), 0))
        self.assertEqual((flows(DOT), settled(DOT)), ((), 0))
        back = Body(("store", "s", "x", -1, -1, ("op", "f", ("load", "x", 1, 0))))
        self.assertEqual((flows(back), settled(back)), ((), 0))

    def test_no_rounds(self):
        self.assertEqual(flows(PAIRS, rounds=0), ())
        self.assertEqual(flows(PAIRS, first=7, rounds=7), ())
        self.assertIsNone(writer_of(PAIRS, "x", 0, rounds=0))
        self.assertEqual(writer_of(PAIRS, "x", 0, rounds=1), ("put", 0))
        self.assertEqual(flows(PAIRS, rounds=None), flows(PAIRS))

    def test_a_step_of_0(self):
        body = Body(("store", "s", "x", 3, 0, ("op", "f", ("load", "x", 0, 9))))
        self.assertEqual(flows(body), (("anti", "s", "s.0.0", 0), ("flow", "s", "s.0.0", 1)))
        self.assertEqual(settled(body), 5)
        self.assertEqual([found_by(body, "s.0.0", number) for number in (2, 3, 4, WIDE)], [None, None, ("s", 3), ("s", 3)])

    def test_long_numbers(self):
        body = Body(("store", "s", "x", WIDE, -WIDE, ("op", "f", ("load", "x", WIDE - 1, WIDE))))
        for load in (0, 1, WIDE - 1, WIDE):
            cell = (WIDE - 1) * load + WIDE
            rest, told = (cell + WIDE) % WIDE, (cell + WIDE) // WIDE
            expected = ("s", told) if rest == 0 and told < load else None
            self.assertEqual(found_by(body, "s.0.0", load), expected)
        self.assertEqual(writer_of(body, "x", -WIDE), ("s", 0))
        self.assertEqual(writer_of(body, "x", WIDE), ("s", 2))

    def test_two_stores(self):
        body = Body(
            ("store", "odd", "x", 2, 1, ("op", "h")),
            ("store", "even", "x", -2, 0, ("op", "f", ("load", "x", 2, -3), ("load", "y", 1, 0))),
        )
        self.assertEqual(writer_of(body, "x", 5), ("odd", 2))
        self.assertEqual(writer_of(body, "x", -6), ("even", 3))
        self.assertIsNone(writer_of(body, "x", 6))
        self.assertIsNone(writer_of(body, "y", 0))
        self.assertEqual(flows(body), (("flow", "odd", "even.0.0", 2),))


class WrongArgumentsTest(unittest.TestCase):
    def test_bodies(self):
        for value in odd_values():
            if not isinstance(value, Body):
                refused(self, InvalidBody, flows, value)
                refused(self, InvalidBody, flows, value, first=-1)
                refused(self, InvalidBody, settled, value)
                refused(self, InvalidBody, writer_of, value, 1, "a", rounds=-1)
                refused(self, InvalidBody, found_by, value, 1, -1)

    def test_numbers(self):
        for value in odd_values():
            if type(value) is not int or not 0 <= value < 10**30:
                refuses_number(self, value, flows, PAIRS, first=value, rounds=-5)
                refuses_number(self, value, found_by, PAIRS, "put.0.0", value)
                if value is not None:
                    refuses_number(self, value, flows, PAIRS, rounds=value)
                    refuses_number(self, value, writer_of, PAIRS, "x", 0, rounds=value)
            if type(value) is not int or abs(value) >= 10**30:
                refuses_number(self, value, writer_of, PAIRS, "x", value, rounds=-1)

    def test_names(self):
        for value in [*odd_values(), "put", "y", "put.0", "put.0.0.0"]:
            refuses_name(self, value, writer_of, PAIRS, value, None, rounds=-1)
            refused(self, InvalidArgument, found_by, PAIRS, value, -1)
        refused(self, InvalidArgument, found_by, PAIRS, "x", 0)
        self.assertEqual(PAIRS, Body(("store", "put", "x", 1, 0, ("op", "f", ("load", "x", 2, -4)))))


if __name__ == "__main__":
    unittest.main()
