"""[0.21]: the error classes."""

import unittest

from firmrows import errors

WITH_MESSAGE = (
    "InvalidRow", "InvalidPattern", "InvalidDatabase", "InvalidQuestion", "InvalidLicence", "InvalidAnswer",
    "InvalidShape", "InvalidOperation", "InvalidEdit", "ParseError", "InvalidCommand",
)
WITH_VALUE = {
    "InvalidNumber": (IndexError, "value"),
    "UnknownName": (KeyError, "name"),
    "TooMany": (OverflowError, "limit"),
    "NotLet": (RuntimeError, "row"),
    "NotEarly": (ArithmeticError, "paper"),
    "NothingToUndo": (LookupError, "many"),
}


class ErrorClassTests(unittest.TestCase):
    def test_row_error(self):
        self.assertEqual(errors.RowError.__bases__, (ValueError,))
        self.assertIsInstance(errors.RowError("wrong"), ValueError)

    def test_errors_with_a_message(self):
        for name in WITH_MESSAGE:
            with self.subTest(name=name):
                kind = getattr(errors, name)
                self.assertEqual(kind.__bases__, (errors.RowError,))
                with self.assertRaises(ValueError):
                    raise kind("a message")

    def test_errors_with_a_value(self):
        for name, (base, attribute) in WITH_VALUE.items():
            kind = getattr(errors, name)
            self.assertEqual(kind.__bases__, (base,))
            self.assertFalse(issubclass(kind, errors.RowError))
            for value in (0, 8, -1, True, None, "x", ("t", 1), ("late", (), (), ()), [1], {"x": 1}):
                with self.subTest(name=name, value=value):
                    self.assertIs(getattr(kind(value), attribute), value)
                    self.assertEqual(list(vars(kind(value))), [attribute])
                    with self.assertRaises(base):
                        raise kind(value)

    def test_none_is_derived_from_another_one(self):
        kinds = [getattr(errors, name) for name in WITH_MESSAGE + tuple(WITH_VALUE)]
        for one in kinds:
            for other in kinds:
                if one is not other:
                    self.assertFalse(issubclass(one, other), (one, other))

    def test_all_stand_in_the_module(self):
        for name in WITH_MESSAGE + tuple(WITH_VALUE) + ("RowError",):
            self.assertEqual(getattr(errors, name).__module__, "firmrows.errors")


if __name__ == "__main__":
    unittest.main()
