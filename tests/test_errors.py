"""The error classes: point 4 and the interface."""

import unittest

from farwrap import errors
from farwrap.errors import InvalidBound, InvalidCall, InvalidKind, LimitExceeded, WrapError
from tests.wrong import nested_list, nested_tuple

FIELDS = {InvalidKind: "part", InvalidBound: "argument", InvalidCall: "call", LimitExceeded: "limit"}


class ErrorsTest(unittest.TestCase):

    def test_the_base_is_an_arithmetic_error(self):
        self.assertEqual(WrapError.__bases__, (ArithmeticError,))

    def test_the_others_are_direct_subclasses_of_the_base(self):
        for error in FIELDS:
            self.assertEqual(error.__bases__, (WrapError,))

    def test_all_are_defined_in_the_file_of_errors(self):
        for error in (WrapError, *FIELDS):
            self.assertEqual(error.__module__, "farwrap.errors")
            self.assertIs(getattr(errors, error.__name__), error)

    def test_a_field_is_set_by_position_and_by_name(self):
        for error, field in FIELDS.items():
            for value in ("bits", 1000, ("put", 0, 300)):
                self.assertEqual(vars(error(value)), {field: value})
                self.assertEqual(vars(error(**{field: value})), {field: value})

    def test_a_field_is_needed_and_there_is_one_alone(self):
        for error in FIELDS:
            with self.assertRaises(TypeError):
                error()
            with self.assertRaises(TypeError):
                error("a", "b")

    def test_the_message_holds_the_field(self):
        self.assertIn("bits", str(InvalidKind("bits")))
        self.assertIn("kinds", str(InvalidBound(argument="kinds")))
        self.assertIn("1000", str(LimitExceeded(1000)))

    def test_a_deep_call_is_kept_and_the_error_can_be_shown(self):
        for call in (nested_list(), nested_tuple()):
            error = InvalidCall(call)
            self.assertIs(error.call, call)
            self.assertIsInstance(str(error), str)
            self.assertIsInstance(repr(error), str)

    def test_they_are_raised_and_caught_by_their_base(self):
        for error, field in FIELDS.items():
            with self.assertRaises(WrapError) as caught:
                raise error("x")
            self.assertEqual(getattr(caught.exception, field), "x")


if __name__ == "__main__":
    unittest.main()
