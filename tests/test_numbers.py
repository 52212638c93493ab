"""Names, integers and slots."""

import unittest
from itertools import product

from loopfoundry.base.numbers import MAX_INTERVAL, MAX_TICKS, is_integer, is_name, rounded_up, slot_of
from tests.helpers import fits_digits, odd_values, refuses_number


class NumbersTest(unittest.TestCase):
    def test_constants(self):
        self.assertEqual((MAX_INTERVAL, MAX_TICKS), (32, 4))

    def test_names(self):
        for name in ("a", "z", "abcdefgh", "zzzzzzzz", "type"):
            self.assertIs(is_name(name), True)
        for name in ("", "abcdefghi", "A", "a1", "a.", "a b", " a", "a\n", "_", "a-b", "`", "{", b"a", ("a",), ["a"]):
            self.assertIs(is_name(name), False)

    def test_integers(self):
        for value in (0, 1, -1, 10**30 - 1, 1 - 10**30):
            self.assertIs(is_integer(value), True)
        for value in (10**30, -(10**30), 10**40, True, False, None, "1", 1.0, (1,), [1], {1: 1}):
            self.assertIs(is_integer(value), False)

    def test_odd_values(self):
        for value in odd_values():
            self.assertIs(is_integer(value), fits_digits(value))
            expected = isinstance(value, str) and value.isalpha() and value.islower() and len(value) <= 8
            self.assertIs(is_name(value), expected)

    def test_slots_by_counting(self):
        for interval in range(1, 33):
            slot = 0
            for tick in range(100):
                self.assertEqual(slot_of(tick, interval), slot)
                slot = 0 if slot == interval - 1 else slot + 1
            slot = 0
            for tick in range(0, -100, -1):
                self.assertEqual(slot_of(tick, interval), slot)
                slot = interval - 1 if slot == 0 else slot - 1

    def test_rounded_up_by_trying(self):
        for number, slot, interval in product(range(-9, 10), range(-9, 10), range(1, 8)):
            expected = number
            while slot_of(expected, interval) != slot_of(slot, interval):
                expected += 1
            self.assertEqual(rounded_up(number, slot, interval), expected)

    def test_long_ones(self):
        most = 10**30 - 1
        self.assertEqual(slot_of(most, 32), 31)
        self.assertEqual(slot_of(-most, 32), 1)
        self.assertEqual(rounded_up(most, 0, 32), 10**30)
        self.assertEqual(rounded_up(-most, most, 32), 31 - 10**30)

    def test_wrong_ones(self):
        for value in odd_values():
            if not fits_digits(value):
                refuses_number(self, value, slot_of, value, 4)
                refuses_number(self, value, slot_of, value, None)
                refuses_number(self, value, rounded_up, value, "x", "y")
                refuses_number(self, value, rounded_up, 1, value, "y")
            if not fits_digits(value) or not 1 <= value <= 32:
                refuses_number(self, value, slot_of, 1, value)
                refuses_number(self, value, rounded_up, 1, 1, value)


if __name__ == "__main__":
    unittest.main()
