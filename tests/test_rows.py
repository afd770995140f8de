"""[0.1], [0.5], [0.8], [0.9]: integers, names, rows, patterns."""

import unittest

from firmrows.base.rows import is_name, is_pattern, is_row
from tests.samples import HUGE, every_value, looks_like_name, looks_like_pattern, looks_like_row, nested


class RowTests(unittest.TestCase):
    def check(self, function, value, expected):
        with self.subTest(function=function.__name__, value=str(value)[:80]):
            self.assertIs(function(value), expected)

    def test_every_value(self):
        for function, expected in ((is_name, looks_like_name), (is_row, looks_like_row), (is_pattern, looks_like_pattern)):
            for value in every_value():
                self.check(function, value, expected(value))

    def test_names(self):
        for value in ("a", "z", "r", "abcdefgh", "zzzzzzzz", "any", "ask", "not"):
            self.check(is_name, value, True)
        for value in ("", "abcdefghi", "a" * 40, "A", "Ab", "aB", "abcdefgH", "a1", "1", "a_", "_a", "a b", " a", "a ",
                      "a\n", "\n", "a-b", "a.", "`", "{", "@", "[", True, None, 1, ("a",), ["a"], {"a": "a"}):
            self.check(is_name, value, False)

    def test_letters_that_are_not_a_to_z(self):
        for value in ("\u00e9", "a\u00df", "\u00aa", "\u0430", "abc\u0131", "\uff41"):
            self.check(is_name, value, False)
            self.check(is_row, (value, 1), False)
            self.check(is_pattern, ("r", value), False)

    def test_every_ascii_character_in_a_name(self):
        for code in range(128):
            for text in (chr(code), "a" + chr(code), chr(code) + "a", "abc" + chr(code) + "efg"):
                self.check(is_name, text, "a" <= chr(code) <= "z")

    def test_rows(self):
        for value in (("r",), ("r", 1), ("r", 1, 2), ("r", 1, 2, 3), ("r", 0, 0, 0), ("r", -1), ("r", HUGE), ("r", -HUGE),
                      ("abcdefgh", 7)):
            self.check(is_row, value, True)
            self.check(is_pattern, value, True)
        for value in ((), ("r", 1, 2, 3, 4), ("abcdefghi", 1), ("", 1), ("R",), (1,), (1, "r"), (None,), (("r",),),
                      ["r"], ["r", 1], "r", {"r": 1}, ("r", True), ("r", 1, False), ("r", 1, 2, True), ("r", None),
                      ("r", (1,)), ("r", [1]), ("r", {1: 1}), ("r", "1"), ("r", "X"), ("r", ""), ("r", nested(tuple, 99))):
            self.check(is_row, value, False)
            self.check(is_pattern, value, False)

    def test_patterns(self):
        for value in (("r", "x"), ("r", "r"), ("r", 1, "x"), ("r", "x", 1), ("r", "x", "x", "x"), ("r", "x", 3, "y"),
                      ("t", "abcdefgh"), ("any", "any", "a")):
            self.check(is_pattern, value, True)
            self.check(is_row, value, False)
        for value in (("r", "x", "y", "z", "u"), ("r", "abcdefghi"), ("r", "x", True), ("r", "x", "Y"), ("r", "x", None),
                      ("r", ("x",)), ["r", "x"], ("r", ["x"])):
            self.check(is_pattern, value, False)


if __name__ == "__main__":
    unittest.main()
