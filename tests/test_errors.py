"""Errors: [0.21]."""
import unittest

from fewmarks import errors
from fewmarks.base.rewriters import Rewriter
from fewmarks.base.words import delay, led_on, texts
from helpers import CHOICE, LAST, TWICE

WITH_MESSAGE = ("InvalidText", "InvalidRewriter", "InvalidMachine", "InvalidBook", "InvalidOperation",
                "InvalidEdit", "ParseError", "InvalidCommand")
WITH_VALUE = {"InvalidNumber": (IndexError, "value"), "UnknownName": (KeyError, "name"), "TooMany": (OverflowError, "limit"),
              "NotSingle": (ArithmeticError, "paper"), "NeedsMarks": (RuntimeError, "fork"), "NothingToUndo": (LookupError, "many")}
ALL = [getattr(errors, name) for name in ("MarkError",) + WITH_MESSAGE + tuple(WITH_VALUE)]


class TestErrors(unittest.TestCase):
    def test_base_class_is_a_value_error(self):
        self.assertEqual(errors.MarkError.__bases__, (ValueError,))
        self.assertIsInstance(errors.MarkError("so"), ValueError)

    def test_those_with_a_message_are_derived_directly_from_it(self):
        for name in WITH_MESSAGE:
            self.assertEqual(getattr(errors, name).__bases__, (errors.MarkError,))
            self.assertIsInstance(getattr(errors, name)("why"), errors.MarkError)

    def test_those_with_a_value_are_derived_from_pythons_class(self):
        for name, (base, kept) in WITH_VALUE.items():
            kind = getattr(errors, name)
            self.assertEqual(kind.__bases__, (base,))
            self.assertFalse(issubclass(kind, errors.MarkError))
            for value in (None, True, 12, "a", (1, "b"), [3], {0: ""}, LAST):
                self.assertIs(getattr(kind(value), kept), value)
                self.assertIsInstance(str(kind(value)), str)

    def test_none_is_derived_from_another_one(self):
        for one in ALL:
            for other in ALL:
                self.assertEqual(issubclass(one, other), one is other or (
                    other is errors.MarkError and one.__name__ in WITH_MESSAGE))

    def test_all_are_defined_in_the_module(self):
        for kind in ALL:
            self.assertEqual(kind.__module__, "fewmarks.errors")

    def test_each_takes_one_value(self):
        for name in WITH_VALUE:
            self.assertRaises(TypeError, getattr(errors, name))

    def test_refused_calls_raise_what_pythons_classes_take(self):
        self.assertRaises(ValueError, delay, "A", "a")
        self.assertRaises(ValueError, led_on, ("a", "a"), "", "")
        self.assertRaises(ValueError, Rewriter, "", {}, (), {})
        self.assertRaises(LookupError, lambda: LAST[4])
        self.assertRaises(IndexError, lambda: list(texts("a", 61)))
        self.assertRaises(OverflowError, CHOICE, "a" * 10)
        self.assertRaises(ArithmeticError, lambda: TWICE >> LAST)


if __name__ == "__main__":
    unittest.main()
