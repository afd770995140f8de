"""[1.1] and stage 1 of the document: what fits patterns, and how two of them compare."""

import unittest
from itertools import product

from firmrows.base.patterns import blanks_of, common, covers, filled, fits, plain
from firmrows.errors import InvalidOperation, InvalidPattern, InvalidRow
from tests import oracle
from tests.samples import HUGE, ErrorTests, looks_like_name, is_plain_integer, every_value, wrong_patterns, wrong_rows

TERMS = (0, 1, "a", "b", "c")
SMALL = [("r",) + terms for many in range(3) for terms in product(TERMS, repeat=many)]
LONG = [("r",) + terms for terms in product((0, 1, "b", "a", "x"), repeat=3)]
# Enough integers to tell any two patterns over 0 and 1 apart: three more than are named.
INTEGERS = (0, 1, 2, 3, 4)


def is_filling(value):
    return type(value) is dict and all(looks_like_name(key) and is_plain_integer(value[key]) for key in value)


class PatternTests(ErrorTests):
    def test_blanks_of(self):
        self.assertEqual(blanks_of(("r",)), ())
        self.assertEqual(blanks_of(("r", 1, 2)), ())
        self.assertEqual(blanks_of(("r", "y", 4, "x")), ("x", "y"))
        self.assertEqual(blanks_of(("z", "y", "y", "b")), ("b", "y"))
        self.assertEqual(blanks_of(("r", "r", "r")), ("r",))
        self.assertEqual(blanks_of(("a", "abc", "ab", "b")), ("ab", "abc", "b"))

    def test_plain(self):
        self.assertEqual(plain(("r",)), ("r",))
        self.assertEqual(plain(("r", 1, HUGE, -1)), ("r", 1, HUGE, -1))
        self.assertEqual(plain(("r", "y", 4, "y")), ("r", "a", 4, "a"))
        self.assertEqual(plain(("r", "b", "a")), ("r", "a", "b"))
        self.assertEqual(plain(("r", "b", "a", "b")), ("r", "a", "b", "a"))
        self.assertEqual(plain(("r", "c", "b", "a")), ("r", "a", "b", "c"))
        self.assertEqual(plain(("x", 3, "x", "x")), ("x", 3, "a", "a"))
        self.assertEqual(plain(("r", "z", "a", "a")), ("r", "a", "b", "b"))

    def test_plain_forms_are_equal_exactly_for_the_same_rows(self):
        for one in SMALL + LONG[::3]:
            self.assertEqual(plain(plain(one)), plain(one))
            for other in SMALL + LONG[::7]:
                same = len(one) == len(other) and (
                    oracle.rows_fitting(one, INTEGERS) == oracle.rows_fitting(other, INTEGERS))
                self.assertIs(plain(one) == plain(other), same, (one, other))

    def test_fits(self):
        self.assertIs(fits(("r", "x", "x"), ("r", 2, 3)), False)
        self.assertIs(fits(("r", "x", "x"), ("r", 2, 2)), True)
        self.assertIs(fits(("r", "x", "y"), ("r", 2, 2)), True)
        self.assertIs(fits(("r", "x", 5), ("r", 2, 5)), True)
        self.assertIs(fits(("r", "x", 5), ("r", 5, 2)), False)
        self.assertIs(fits(("r", "x", "y", "x"), ("r", 1, 2, 1)), True)
        self.assertIs(fits(("r", "x", "y", "x"), ("r", 1, 1, 2)), False)
        self.assertIs(fits(("r", "x", "x", "x"), ("r", -HUGE, -HUGE, -HUGE)), True)
        self.assertIs(fits(("r",), ("r",)), True)
        self.assertIs(fits(("r",), ("s",)), False)
        self.assertIs(fits(("r", "x"), ("s", 1)), False)
        self.assertIs(fits(("r", "x"), ("r",)), False)
        self.assertIs(fits(("r", "x"), ("r", 1, 1)), False)
        self.assertIs(fits(("r", 1, "x"), ("r", 1)), False)

    def test_fits_by_trial(self):
        rows = [("r",) + numbers for many in range(4) for numbers in product((0, 1, 2), repeat=many)]
        for pattern in SMALL + LONG:
            fitting = oracle.rows_fitting(pattern, (0, 1, 2))
            for row in rows:
                self.assertIs(fits(pattern, row), row in fitting, (pattern, row))

    def test_a_row_is_a_pattern_that_only_it_fits(self):
        rows = [("r",), ("s",), ("r", 1), ("r", 2), ("r", 1, 1), ("r", 1, 2), ("r", 2, 1), ("r", 1, 2, 3), ("r", 3, 2, 1)]
        for one in rows:
            for other in rows:
                self.assertIs(fits(one, other), one == other)

    def test_filled(self):
        self.assertEqual(filled(("r", "x", 7), {"x": 1, "y": 2}), ("r", 1, 7))
        self.assertEqual(filled(("x", "x", "y", "x"), {"y": -1, "x": HUGE}), ("x", HUGE, -1, HUGE))
        self.assertEqual(filled(("r",), {}), ("r",))
        self.assertEqual(filled(("r", 1, 2), {"r": 5}), ("r", 1, 2))
        self.assertEqual(filled(("r", "a", "b"), {"a": 2, "b": 1}), ("r", 2, 1))
        numbers = {"x": 1, "y": 2}
        filled(("r", "x"), numbers)
        self.assertEqual(numbers, {"x": 1, "y": 2})

    def test_covers(self):
        self.assertIs(covers(("r", "x", "y"), ("r", "x", "x")), True)
        self.assertIs(covers(("r", "x", "x"), ("r", "x", "y")), False)
        self.assertIs(covers(("r", "x"), ("r", 3)), True)
        self.assertIs(covers(("r", 3), ("r", "x")), False)
        self.assertIs(covers(("r", "x", "y"), ("r", "y", "x")), True)
        self.assertIs(covers(("r", "x", "x"), ("r", 1, 1)), True)
        self.assertIs(covers(("r", "x", "x"), ("r", 1, 2)), False)
        self.assertIs(covers(("r", "x", 3), ("r", 3, "x")), False)
        self.assertIs(covers(("r", "x"), ("s", "x")), False)
        self.assertIs(covers(("r", "x"), ("r", "x", "x")), False)
        self.assertIs(covers(("r",), ("r",)), True)

    def test_covers_by_trial(self):
        for one in SMALL + LONG[::2]:
            wide = oracle.rows_fitting(one, INTEGERS)
            for other in SMALL + LONG[::5]:
                expected = len(one) == len(other) and oracle.rows_fitting(other, INTEGERS) <= wide
                self.assertIs(covers(one, other), expected, (one, other))

    def test_common(self):
        self.assertEqual(common(("r", "x", 3), ("r", "x", "x")), ("r", 3, 3))
        self.assertIs(common(("t", "x"), ("t",)), None)
        self.assertIs(common(("t", "x"), ("s", "x")), None)
        self.assertIs(common(("t", 1), ("t", 2)), None)
        self.assertEqual(common(("t", 1), ("t", 1)), ("t", 1))
        self.assertEqual(common(("t", "x"), ("t", "y")), ("t", "a"))
        self.assertEqual(common(("t",), ("t",)), ("t",))
        self.assertEqual(common(("r", "x", "y"), ("r", "y", "x")), ("r", "a", "b"))
        self.assertEqual(common(("r", "x", "x", "y"), ("r", "x", "y", "y")), ("r", "a", "a", "a"))
        self.assertIs(common(("r", "x", "x", 3), ("r", 4, "y", "y")), None)
        self.assertEqual(common(("r", "x", "x", 4), ("r", 4, "y", "y")), ("r", 4, 4, 4))
        self.assertEqual(common(("r", "x", 3), ("r", 3, "x")), ("r", 3, 3))
        self.assertEqual(common(("r", "x", 3), ("r", 4, "x")), ("r", 4, 3))
        self.assertEqual(common(("r", "z", 2, "y"), ("r", "y", "x", "z")), ("r", "a", 2, "b"))

    def test_common_by_trial(self):
        for one in SMALL[::2] + LONG[::4]:
            for other in SMALL + LONG[::3]:
                both = oracle.rows_fitting(one, INTEGERS) & oracle.rows_fitting(other, INTEGERS)
                found = common(one, other)
                if len(one) != len(other) or not both:
                    self.assertIs(found, None, (one, other))
                else:
                    self.assertEqual(oracle.rows_fitting(found, INTEGERS), both, (one, other))
                    self.assertEqual(found, plain(found))

    def test_errors(self):
        for function in (blanks_of, plain):
            self.check_errors(function, (("r", "x"), wrong_patterns(), InvalidPattern))
        self.check_errors(fits, (("r", "x"), wrong_patterns(), InvalidPattern), (("r", 1), wrong_rows(), InvalidRow))
        for function in (covers, common):
            self.check_errors(function, (("r", "x"), wrong_patterns(), InvalidPattern),
                              (("r", 1), wrong_patterns(), InvalidPattern))

    def test_errors_of_filled(self):
        missing = [value for value in every_value() if not is_filling(value) or "x" not in value]
        near = [{"y": 1}, {"x": True}, {"x": 1, "y": True}, {"x": 1, "y": None}, {"x": 1, 2: 3}, {"x": 1, "Y": 3},
                {"x": 1, "": 1}, {"x": 1, "abcdefghi": 1}, {"x": "x"}, {"x": 1, None: 1}, {"x": 1, ("y",): 1}]
        self.check_errors(filled, (("r", "x", 7), wrong_patterns(), InvalidPattern),
                          ({"x": 1, "y": 2}, missing + near, InvalidOperation))
        self.assert_error(InvalidOperation, filled, [("r", "x", "y"), {"x": 1, "z": 1}])
        self.assert_error(InvalidOperation, filled, [("r", 1), {1: 1}])
        self.assert_error(InvalidOperation, filled, [("r", 1), None])


if __name__ == "__main__":
    unittest.main()
