"""The errors: what they derive from, and what they keep."""

import unittest

from loopfoundry import errors
from loopfoundry.errors import (
    Broken,
    FoundryError,
    InvalidArgument,
    InvalidBody,
    InvalidCover,
    InvalidJob,
    InvalidKernel,
    InvalidLives,
    InvalidMachine,
    InvalidNumber,
    InvalidTree,
    NothingToUndo,
    ParseError,
    TooMany,
    UnknownName,
)
from tests.helpers import odd_values

FOUNDRY = (
    InvalidTree,
    InvalidBody,
    InvalidMachine,
    InvalidCover,
    InvalidJob,
    InvalidLives,
    InvalidKernel,
    InvalidArgument,
    ParseError,
)
OTHERS = (UnknownName, InvalidNumber, TooMany, NothingToUndo, Broken)


class ErrorsTest(unittest.TestCase):
    def test_the_base(self):
        self.assertTrue(issubclass(FoundryError, ValueError))
        for error in FOUNDRY:
            self.assertTrue(issubclass(error, FoundryError), error)

    def test_the_other_bases(self):
        bases = (KeyError, RuntimeError, OverflowError, IndexError, ArithmeticError)
        for error, base in zip(OTHERS, bases):
            self.assertTrue(issubclass(error, base), error)
            self.assertFalse(issubclass(error, FoundryError), error)
            self.assertFalse(issubclass(error, ValueError), error)

    def test_none_is_derived_from_another_one(self):
        for error in FOUNDRY + OTHERS:
            for other in FOUNDRY + OTHERS:
                self.assertEqual(issubclass(error, other), error is other, (error, other))
            self.assertEqual(error.__module__, "loopfoundry.errors")

    def test_messages_of_any_kind(self):
        for error in (FoundryError, *FOUNDRY[:-1]):
            for message in odd_values():
                self.assertIs(type(error(message)), error)
                with self.assertRaises(error):
                    raise error(message)

    def test_arguments_are_kept(self):
        for error, name in (
            (ParseError, "line"),
            (UnknownName, "wanted"),
            (InvalidNumber, "value"),
            (TooMany, "limit"),
            (NothingToUndo, "many"),
        ):
            for value in [*odd_values(), 10**6000]:
                self.assertIs(getattr(error(value), name), value)
                self.assertIs(getattr(error(**{name: value}), name), value)
        broken = Broken("kind", ["reason"])
        self.assertEqual((broken.kind, broken.reason), ("kind", ["reason"]))
        for value in odd_values():
            self.assertIs(Broken(value, 1).kind, value)
            self.assertIs(Broken(1, value).reason, value)

    def test_numbers_of_arguments(self):
        for error in (ParseError, *OTHERS):
            with self.assertRaises(TypeError):
                error()
        with self.assertRaises(TypeError):
            Broken(1)

    def test_no_other_errors(self):
        found = {name for name, value in vars(errors).items() if isinstance(value, type)}
        self.assertEqual(found, {error.__name__ for error in (FoundryError, *FOUNDRY, *OTHERS)})


if __name__ == "__main__":
    unittest.main()
