"""Texts of values: promise [20.1]."""

import random
import unittest

from firmrows.ask.questions import Question, make_rule
from firmrows.base.databases import Database
from firmrows.errors import (
    InvalidDatabase, InvalidLicence, InvalidPattern, InvalidQuestion, InvalidShape, ParseError,
)
from firmrows.future.licences import Licence
from firmrows.text.formats import (
    format_database, format_licence, format_question, format_row, format_rule, format_shape, parse_database, parse_licence,
    parse_question, parse_row, parse_rule, parse_shape,
)
from tests.chance import SHAPE_NUMBERS, some_database, some_licence, some_pattern, some_question, some_rule, some_shape
from tests.samples import (
    ALONE, EITHER, GROWING, HUGE, ROWS, SPLIT, ErrorTests, every_value, looks_like_pattern, looks_like_shape, wrong_for, wrong_objects,
    wrong_patterns,
)

WORDS = ("if", "not", "none", "any", "empty", "come", "go", "shut", "kept", "x")
PAIRS = ((format_row, parse_row), (format_rule, parse_rule), (format_question, parse_question), (format_database, parse_database),
         (format_licence, parse_licence), (format_shape, parse_shape))
SIGNS = "()!=;:|,- 0123abxifnotemypug\n_A\t."


def some_integer(source):
    return source.choice((0, 1, -1, 7, 10, -30, HUGE, -HUGE, 10 ** 39))


def worded(source, value):
    """The value with words in the place of its names, and with other integers."""
    if type(value) is str:
        return {"x": "if", "y": "not", "z": "none", "w": "any", "t": "empty", "s": "not", "r": "if", "u": "none", "a": "any"}.get(value, value)
    if type(value) is int:
        return (0, 10 ** 39, -10 ** 39)[value % 3]
    return tuple(worded(source, part) for part in value)


def some_values(source):
    """A value of each kind, in the order of PAIRS."""
    question = some_question(source)
    rule = some_rule(source, source.randrange(4))
    row = some_pattern(source, ("x", "y", some_integer(source), some_integer(source)))
    if source.random() < 0.4:
        rule, row = worded(source, rule), worded(source, row)
        rules = {worded(source, one): True for one in question.rules}
        question = Question(*rules, width=question.width)
    return (row, rule, question, some_database(source), some_licence(source), some_shape(source, SHAPE_NUMBERS, 12))


class FormatTests(ErrorTests):
    def test_there_and_back(self):
        source = random.Random(203)
        for _ in range(1200):
            for value, (formatted, parsed) in zip(some_values(source), PAIRS):
                text = formatted(value)
                self.assertIs(type(text), str)
                self.assertEqual(parsed(text), value)
                self.assertEqual(formatted(parsed(text)), text)
                self.assertEqual(repr(parsed(text)) if type(value) is tuple else None, repr(value) if type(value) is tuple else None)

    def test_texts_with_something_otherwise(self):
        # What is read is what is written, and nothing else.
        source = random.Random(204)
        told = []
        for _ in range(2500):
            for value, (formatted, parsed) in zip(some_values(source), PAIRS):
                text = formatted(value)
                place = source.randrange(len(text) + 1)
                end = place + source.randrange(3)
                text = text[:place] + source.choice(("", source.choice(SIGNS), source.choice(SIGNS), source.choice(text))) + text[end:]
                told.append(self.is_read(formatted, parsed, text))
        self.assertGreater(min(told.count(True), told.count(False)), 1000)

    def is_read(self, formatted, parsed, text):
        try:
            value = parsed(text)
        except ParseError as error:
            self.assertIs(type(error), ParseError)
            return False
        self.assertEqual(formatted(value), text)
        return True

    def test_all_short_texts(self):
        texts = [""]
        for _ in range(5):
            texts = texts + [text + sign for text in texts[-4000:] for sign in "a1(), "]
        for parsed, right in ((parse_row, {"a()", "a(1)", "a(a)", "aa()"}), (parse_rule, {"()", "(1)", "(11)", "(111)", "(1111)"})):
            found = set()
            for text in set(texts):
                try:
                    parsed(text)
                    found.add(text)
                except ParseError:
                    pass
            self.assertTrue(right <= found | {"(1111)", "(111)", "(11)"})
            formatted = format_row if parsed is parse_row else format_rule
            self.assertTrue(all(formatted(parsed(text)) == text for text in found))

    def test_texts(self):
        for formatted, value, text in (
                (format_row, ("r", 1, "x"), "r(1, x)"), (format_row, ("t",), "t()"), (format_row, ("not", "if", -3), "not(if, -3)"),
                (format_rule, make_rule(("x", 3), ("t", "x")), "(x, 3) if t(x)"), (format_rule, make_rule(()), "()"),
                (format_rule, make_rule((), barred=(("a",), ("b", 1))), "() if not a(), not b(1)"),
                (format_rule, make_rule(("x",), ("t", "x"), ("r", "x", 0), barred=(("s", "x"),), unlike=(("x", 3), (4, "x"))),
                 "(x) if t(x), r(x, 0), not s(x), x != 3, 4 != x"),
                (format_rule, make_rule((), ("not", "not"), barred=(("not", "not"),), unlike=(("not", 3), ("not", "not"))),
                 "() if not(not), not not(not), not != 3, not != not"),
                (format_rule, make_rule((), unlike=((1, 1),)), "() if 1 != 1"),
                (format_question, Question(width=2), "none 2"), (format_question, Question(), "none 0"), (format_question, Question(make_rule(())), "()"),
                (format_question, EITHER, "() if not a(); () if not b()"), (format_database, Database(), "empty"),
                (format_database, Database(("empty",), ("t", 1)), "empty(); t(1)"), (format_shape, ((), ()), "() : empty"),
                (format_shape, ((5,), (("t", 5),)), "(5) : t(5)"), (format_licence, Licence(), "come none | go none | shut none | kept none"),
                (format_licence, Licence(come=(("any", "x"), ("none",)), go="any", shut=(("t", 1),), kept=(("r", "x", "y", "x"), ("a",))),
                 "come any(a), none() | go any | shut t(1) | kept a(), r(a, b, a)")):
            self.assertEqual(formatted(value), text)
            self.assertEqual(dict(PAIRS)[formatted](text), value)

    def test_texts_that_are_refused(self):
        digits = "9" * 40
        for parsed, good, wrong in (
                (parse_row, ("t(1)", "t()", "t(-1)", f"t({digits})", f"t(-{digits})", "t(abcdefgh)", "abcdefgh()", "r(1, x, x)"),
                 ("t(-0)", "t(+1)", "t(01)", "t(00)", "t(--1)", "t(1-)", "t(-)", f"t({digits}0)", f"t(-{digits}0)", "t(abcdefghi)", "abcdefghi()",
                  "t (1)", "t( 1)", "t(1 )", "t(1,2)", "t(1,  2)", "t(1, )", "t(, 1)", "t(1)\n", " t(1)", "t(1) ", "t", "", "(1)", "T(1)", "t1()",
                  "t(1, 2, 3, 4)", "t(x1)", "t(1x)", "t(X)", "t(\u0661)", "t(\u00e9)", "\u00e9()", "t(1", "t1)", "t(1))", "t((1))", "t(1_0)", "-t()")),
                (parse_rule, ("()", "(1, 2, 3)", "() if a()", "(x) if t(x)"),
                 ("(x)", "(1, 2, 3, 4)", "() if ", "() if", "()  if a()", "() if a(),b()", "() if not a(), b()", "() if 1 != 2, a()", "() if x != 1",
                  "() if not t(x)", "() if a() ", "() if a(), ", "(1,2)", "() if a(), a(), a(), a(), a()", "() if not a(), not a(), not a(), not a()",
                  "() if 1 != 1, 1 != 1, 1 != 1, 1 != 1, 1 != 1", "() if u(a, b, c), r(d, e)", "() if not  a()", "() if nota", "() if 1 !=2",
                  "() if 1 = 2", "() if 01 != 2", "() if not", "() if not not not()", "(); ()", "none 0", "() if t(x), x != ", "() if 1")),
                (parse_question, ("none 3", "()", "(1); (2)", "(1) if a(); (1)"),
                 ("none", "none 4", "none  2", "none 02", "none -1", "none 2 ", "none 2; (1)", "(); ()", "(1); (1)", "(); (1)", "();()", "() ; ()", "(); ",
                  "; ()", "", "(1); (2); (3); (4); (5); (6); (7); (8); (9)", "empty", "any", "(x)", "() if a(); ")),
                (parse_database, ("empty", "a()", "a(); t(1); t(2)", "empty()", "none(); not()", "t(-1); t(0)"),
                 ("", "none", "any", "empty ", "Empty", "t(2); t(1)", "t(1); t(1)", "t(x)", "t(1),t(2)", "t(1), t(2)", "t(1);t(2)", "t(1); ", "empty; t(1)",
                  "; ".join(f"t({number})" for number in range(10, 71)), "t(True)", "a(); a(1); a(0)")),
                (parse_licence, ("come none | go none | shut none | kept none", "come any | go any | shut none | kept none",
                                 "come t(a), t(a, b) | go none | shut any() | kept none()"),
                 ("", "come none | go none | shut none", "come none|go none|shut none|kept none", "come any | go any | shut any | kept none",
                  "come any | go any | shut none | kept any", "go none | come none | shut none | kept none", "come t(x) | go none | shut none | kept none",
                  "come t(a), t(a) | go none | shut none | kept none", "come t(a), t(1) | go none | shut none | kept none",
                  "come t(b, a) | go none | shut none | kept none", "come empty | go none | shut none | kept none",
                  "come none | go none | shut none | kept none ", "come  none | go none | shut none | kept none",
                  "come none, t(1) | go none | shut none | kept none", "come t(1); t(2) | go none | shut none | kept none",
                  "come none | go none | shut none | kept none | kept none", "come | go none | shut none | kept none")),
                (parse_shape, ("() : empty", "(1, 1, 1) : a()", "() : t(1); t(2)"),
                 ("() :", "() : ", "()", "() :empty", "(): empty", "() : none", "(x) : empty", "(1, 1, 1, 1) : empty", "() : t(2); t(1)", "() : t(1); t(1)",
                  "() : t(x)", "() : " + "; ".join(f"t({number})" for number in range(10, 23)), "() : empty; t(1)", "() : any", " () : empty", "() : empty ",
                  "() | empty"))):
            for text in good:
                self.assertTrue(self.is_read({one: two for two, one in PAIRS}[parsed], parsed, text), text)
            for text in wrong:
                self.assert_error(ParseError, parsed, [text])
        sixty = "; ".join(f"t({number})" for number in range(10, 70))
        self.assertEqual(len(parse_database(sixty)), 60)
        self.assertEqual(len(parse_shape("() : " + "; ".join(f"t({number})" for number in range(10, 22)))[1]), 12)
        self.assertEqual(len(parse_question("; ".join(f"({number})" for number in range(8)))), 8)

    def test_values_that_are_no_strings(self):
        texts = {"any", "empty"}
        for value in every_value() + [b"t(1)", bytearray(b"t()")]:
            for formatted, parsed in PAIRS:
                if type(value) is str:
                    self.assertIs(self.is_read(formatted, parsed, value), value in texts and value == "empty" and parsed is parse_database)
                else:
                    self.assert_error(ParseError, parsed, [value])

    def test_errors(self):
        self.check_errors(format_row, (("t", "x"), wrong_patterns(), InvalidPattern))
        self.check_errors(format_rule, (ALONE.rules[0], wrong_for(lambda value: type(value) is tuple and value in (
            ((), (), (), ()), (("x",), (("t", "x"),), (), ()))), InvalidQuestion))
        self.check_errors(format_question, (SPLIT, wrong_objects(Question), InvalidQuestion))
        self.check_errors(format_database, (ROWS, wrong_objects(Database), InvalidDatabase))
        self.check_errors(format_licence, (GROWING, wrong_objects(Licence), InvalidLicence))
        self.check_errors(format_shape, (((), ()), wrong_for(looks_like_shape), InvalidShape))
        for value in every_value():
            if looks_like_pattern(value):
                self.assertEqual(parse_row(format_row(value)), value)

    def test_words(self):
        for one in WORDS:
            for other in WORDS:
                rule = make_rule((one,), (other, one), barred=((one, other),) if one == other else (), unlike=((one, 3), (one, one)))
                for value, (formatted, parsed) in (((other, one, 3), PAIRS[0]), (rule, PAIRS[1]), (Question(rule), PAIRS[2]),
                                                   (Database((one,), (other, 1)), PAIRS[3]), (Licence(come=((one,), (other, "a"))), PAIRS[4])):
                    self.assertEqual(parsed(formatted(value)), value)


if __name__ == "__main__":
    unittest.main()
