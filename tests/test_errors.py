"""Tests of bailiwick.errors."""

from bailiwick import errors
from tests.samples import Tests, nested, wrong_values

ONE_OR_NONE = (
    "BailiwickError", "InvalidName", "InvalidSchema", "InvalidTree", "InvalidDeed", "InvalidFilter", "InvalidLetter",
    "InvalidOperation",
)
KEEPERS = {
    "InvalidText": "value", "InvalidWord": "value", "InvalidNumber": "value", "TooMany": "most", "ParseError": "index",
    "UnknownNumber": "asked", "UnknownName": "asked", "Refused": "reason",
}
OTHER_BASES = {
    "BailiwickError": ValueError, "InvalidNumber": ArithmeticError, "TooMany": OverflowError,
    "UnknownNumber": KeyError, "UnknownName": IndexError, "Refused": LookupError,
}


class ErrorTests(Tests):
    """The error classes [0.24]."""

    def test_bases(self):
        for name in (*ONE_OR_NONE, *KEEPERS):
            error = getattr(errors, name)
            self.assertEqual(error.__bases__, (OTHER_BASES.get(name, errors.BailiwickError),), name)
            self.assertEqual(error.__module__, "bailiwick.errors")

    def test_five_are_no_bailiwick_errors(self):
        for name in ("InvalidNumber", "TooMany", "UnknownNumber", "UnknownName", "Refused"):
            self.assertFalse(issubclass(getattr(errors, name), errors.BailiwickError), name)

    def test_one_argument_or_none(self):
        for name in ONE_OR_NONE:
            error = getattr(errors, name)
            self.assertIsInstance(error(), error)
            for value in self.arguments():
                self.assertIsInstance(error(value), error)
                self.assertIsInstance(str(error(value)), str)
            with self.assertRaises(TypeError):
                error(1, 2)

    def test_arguments_are_kept(self):
        for name, attribute in KEEPERS.items():
            error = getattr(errors, name)
            for value in self.arguments():
                made = error(value)
                self.assertIs(getattr(made, attribute), value)
                self.assertIsInstance(str(made), str)
                self.assertIsInstance(repr(made), str)
            with self.assertRaises(TypeError):
                error(1, 2)

    def arguments(self):
        """Arguments of any kind and size."""
        ring = []
        ring.append(ring)
        return [*wrong_values(), 10 ** 5000, "x" * 10 ** 6, nested(500), ring, object(), 1.5, b"a", {1}]

    def test_each_can_be_raised_and_caught_by_its_base(self):
        for name, base in OTHER_BASES.items():
            with self.assertRaises(base):
                raise getattr(errors, name)("a")
        for name in ("InvalidText", "ParseError", "InvalidDeed"):
            with self.assertRaises(errors.BailiwickError):
                raise getattr(errors, name)(4)
