"""[0.7], [0.11] and stage 4 of the document: matches."""

import random
import unittest

from firmrows.ask.matches import answer_of, first_match, is_match, matches, matches_of, rows_of
from firmrows.ask.questions import Question, make_rule
from firmrows.base.databases import Database
from firmrows.errors import InvalidAnswer, InvalidDatabase, InvalidNumber, InvalidOperation, InvalidQuestion
from tests import oracle
from tests.chance import some_database, some_question, some_rule
from tests.samples import (
    ALONE, EITHER, HUGE, ROWS, SPLIT, ErrorTests, every_value, wrong_answers, wrong_bindings, wrong_indices,
    wrong_objects,
)

WANTED = (("t", "a"), ("t", "b"), ("t", "c"), ("t", "d"))
SIXTY = Database(*[("t", number) for number in range(60)])
FOUR = Question(make_rule(("d",), *WANTED), make_rule((7,), ("t", "x")), make_rule(("a",), *WANTED))
WIDE = Question(make_rule(("y", 3), ("r", "x", "y"), ("t", "z"), ("t", 1), barred=(("s", "z"), ("r", "y", "x")),
                          unlike=(("x", "z"), ("y", 9))))


class MatchTests(ErrorTests):
    def test_matches(self):
        self.assertEqual(list(matches(SPLIT, ROWS)), [(0, {"x": 1}), (1, {"x": 2})])
        self.assertEqual(list(matches(EITHER, Database())), [(0, {}), (1, {})])
        self.assertEqual(list(matches(EITHER, Database(("a",)))), [(1, {})])
        self.assertEqual(list(matches(Question(), ROWS)), [])
        self.assertEqual(list(matches(Question(width=3), ROWS)), [])
        self.assertEqual(list(matches(Question(make_rule((3,))), Database())), [(0, {})])

    def test_order(self):
        question = Question(make_rule((), ("t", "b"), ("r", "c", "a")), make_rule((), ("r", "y", "x")))
        base = Database(("t", 5), ("t", -1), ("r", 1, 9), ("r", 2, 3), ("r", 1, 3))
        found = list(matches(question, base))
        self.assertEqual(found, [(0, {"a": a, "b": b, "c": c}) for a, b, c in (
            (3, -1, 1), (3, -1, 2), (3, 5, 1), (3, 5, 2), (9, -1, 1), (9, 5, 1))]
            + [(1, {"x": 3, "y": 1}), (1, {"x": 3, "y": 2}), (1, {"x": 9, "y": 1})])
        for index, numbers in found:
            self.assertEqual(list(numbers), sorted(numbers))

    def test_by_trial(self):
        source = random.Random(5)
        for _ in range(800):
            question, base = some_question(source), some_database(source)
            expected = oracle.matches(question.rules, base.rows)
            found = list(matches(question, base))
            self.assertEqual(found, expected, (question.rules, base.rows))
            self.assertEqual([list(numbers) for _, numbers in found], [list(numbers) for _, numbers in expected])

    def test_matches_of_by_trial(self):
        source = random.Random(6)
        for _ in range(600):
            question, base = some_question(source, 2), some_database(source, 2)
            pairs = oracle.matches(question.rules, base.rows)
            answers = {oracle.answer(question.rules[index], numbers) for index, numbers in pairs}
            for answer in sorted(answers | {(5,) * question.width}):
                expected = [(index, numbers) for index, numbers in pairs
                            if oracle.answer(question.rules[index], numbers) == answer]
                found = list(matches_of(question, base, answer))
                self.assertEqual(found, expected, (question.rules, base.rows, answer))
                self.assertEqual([list(numbers) for _, numbers in found], [list(numbers) for _, numbers in expected])
                self.assertEqual(first_match(question, base, answer), expected[0] if expected else None)

    def test_matches_of(self):
        question = Question(make_rule(("x", "x", 3), ("r", "x", "y")), make_rule((1, "y", 3), ("r", "x", "y")))
        base = Database(("r", 1, 1), ("r", 1, 2), ("r", 2, 1))
        self.assertEqual(list(matches_of(question, base, (1, 1, 3))),
                         [(0, {"x": 1, "y": 1}), (0, {"x": 1, "y": 2}), (1, {"x": 1, "y": 1}), (1, {"x": 2, "y": 1})])
        self.assertEqual(list(matches_of(question, base, (1, 2, 3))), [(1, {"x": 1, "y": 2})])
        self.assertEqual(list(matches_of(question, base, (1, 1, 4))), [])
        self.assertEqual(list(matches_of(question, base, (2, 1, 3))), [])
        self.assertEqual(list(matches_of(Question(width=2), base, (1, 2))), [])

    def test_first_match(self):
        self.assertIs(first_match(SPLIT, ROWS, (3,)), None)
        self.assertEqual(first_match(SPLIT, ROWS, (2,)), (1, {"x": 2}))
        self.assertEqual(first_match(EITHER, Database(("a",)), ()), (1, {}))
        self.assertEqual(first_match(FOUR, SIXTY, (59,)), (0, {"a": 0, "b": 0, "c": 0, "d": 59}))
        self.assertEqual(first_match(FOUR, SIXTY, (7,)), (0, {"a": 0, "b": 0, "c": 0, "d": 7}))
        self.assertIs(first_match(FOUR, SIXTY, (60,)), None)

    def test_taken_in_part(self):
        one = matches(FOUR, SIXTY)
        self.assertEqual(next(one), (0, {"a": 0, "b": 0, "c": 0, "d": 0}))
        self.assertEqual(next(one), (0, {"a": 0, "b": 0, "c": 0, "d": 1}))
        other = matches(FOUR, SIXTY)
        self.assertEqual(next(other), (0, {"a": 0, "b": 0, "c": 0, "d": 0}))
        self.assertEqual(next(one), (0, {"a": 0, "b": 0, "c": 0, "d": 2}))
        third = matches_of(FOUR, SIXTY, (7,))
        self.assertEqual(next(third), (0, {"a": 0, "b": 0, "c": 0, "d": 7}))
        self.assertEqual(next(third), (0, {"a": 0, "b": 0, "c": 1, "d": 7}))
        self.assertEqual(next(other), (0, {"a": 0, "b": 0, "c": 0, "d": 1}))

    def test_taken_twice_and_side_by_side(self):
        expected = oracle.matches(SPLIT.rules, ROWS.rows)
        self.assertEqual((list(matches(SPLIT, ROWS)), list(matches(SPLIT, ROWS))), (expected, expected))
        self.assertEqual(list(zip(matches(SPLIT, ROWS), matches(SPLIT, ROWS))), [(pair, pair) for pair in expected])
        one = matches(SPLIT, ROWS)
        list(one)
        self.assertEqual(list(one), [])

    def test_what_is_returned_gives_no_access(self):
        question = Question(make_rule(("x",), ("r", "x", "y")), make_rule((4,)))
        base = Database(("r", 1, 1), ("r", 1, 2), ("r", 2, 1))
        for make in (lambda: matches(question, base), lambda: matches_of(question, base, (1,))):
            expected = list(make())
            found = []
            for index, numbers in make():
                found.append((index, dict(numbers)))
                numbers.clear()
                numbers["x"] = 9
            self.assertEqual(found, expected)
            self.assertEqual(list(make()), expected)
        first_match(question, base, (1,))[1].clear()
        self.assertEqual(first_match(question, base, (1,)), (0, {"x": 1, "y": 1}))

    def test_is_match(self):
        base = Database(("r", 1, 2), ("t", 1), ("t", 5), ("t", 6), ("s", 6))
        for numbers, expected in (
                ({"x": 1, "y": 2, "z": 5}, True), ({"z": 5, "y": 2, "x": 1}, True), ({"x": 1, "y": 2, "z": 1}, False),
                ({"x": 1, "y": 2, "z": 6}, False), ({"x": 1, "y": 2, "z": 7}, False), ({"x": 2, "y": 1, "z": 5}, False),
                ({"x": 1, "y": 2}, False), ({"x": 1, "y": 2, "z": 5, "w": 1}, False), ({"x": True, "y": 2, "z": 5}, False),
                ({"x": 1, "y": 2, 3: 5}, False), ({"x": 1, "y": 2, "z": None}, False)):
            with self.subTest(numbers=numbers):
                self.assertIs(is_match(WIDE, base, 0, numbers), expected)
        self.assertIs(is_match(WIDE, base.with_rows(("r", 2, 1)), 0, {"x": 1, "y": 2, "z": 5}), False)
        self.assertIs(is_match(WIDE, base.without_rows(("t", 1)), 0, {"x": 1, "y": 2, "z": 5}), False)
        self.assertIs(is_match(SPLIT, ROWS, 0, {"x": 1}), True)
        self.assertIs(is_match(SPLIT, ROWS, 1, {"x": 1}), False)
        self.assertIs(is_match(EITHER, ROWS, 1, {}), True)
        self.assertIs(is_match(SPLIT, SIXTY | Database(*[("s", number) for number in range(60)]), 1, {"x": 59}), True)

    def test_is_match_by_trial(self):
        source = random.Random(7)
        for _ in range(300):
            rule, base = some_rule(source, 1, 2), some_database(source, 2)
            names = oracle.variables(rule)
            for values in ((0,) * 4, (0, 1, 0, 1), (1, 0, 0, 1), (1, 1, 1, 0), (0, 0, 1, 1)):
                numbers = dict(zip(names, values))
                self.assertIs(is_match(Question(rule), base, 0, numbers), oracle.holds(rule, numbers, set(base.rows)))

    def test_is_match_accepts_every_value(self):
        for value in every_value():
            self.assertIs(is_match(ALONE, ROWS, 0, value), type(value) is dict and repr(value) == "{'x': 1}")
            self.assertIs(is_match(EITHER, ROWS, 0, value), type(value) is dict and not value)

    def test_answer_of(self):
        self.assertEqual(answer_of(SPLIT, 1, {"x": 9}), (9,))
        self.assertEqual(answer_of(EITHER, 0, {}), ())
        self.assertEqual(answer_of(WIDE, 0, {"x": 1, "z": HUGE, "y": -4}), (-4, 3))
        self.assertEqual(answer_of(Question(make_rule(("x", "x", 5), ("t", "x"), unlike=(("x", "x"),))), 0, {"x": 1}), (1, 1, 5))

    def test_rows_of(self):
        self.assertEqual(rows_of(SPLIT, 0, {"x": 9}), ((("t", 9),), (("s", 9),)))
        self.assertEqual(rows_of(SPLIT, 1, {"x": 9}), ((("s", 9), ("t", 9)), ()))
        self.assertEqual(rows_of(EITHER, 1, {}), ((), (("b",),)))
        self.assertEqual(rows_of(WIDE, 0, {"x": 1, "y": 2, "z": 1}),
                         ((("r", 1, 2), ("t", 1)), (("r", 2, 1), ("s", 1))))
        rule = make_rule((), ("t", "y"), ("t", "x"), ("a",), ("t", 3), barred=(("u", "y"), ("u", "x"), ("u", 0)))
        self.assertEqual(rows_of(Question(rule), 0, {"x": 3, "y": 4}),
                         ((("a",), ("t", 3), ("t", 4)), (("u", 0), ("u", 3), ("u", 4))))
        self.assertEqual(rows_of(Question(rule), 0, {"x": 0, "y": 0}), ((("a",), ("t", 0), ("t", 3)), (("u", 0),)))

    def test_numbers_stay_as_they_are(self):
        numbers = {"z": 1, "x": 1, "y": 2}
        rows_of(WIDE, 0, numbers)
        answer_of(WIDE, 0, numbers)
        is_match(WIDE, ROWS, 0, numbers)
        self.assertEqual(list(numbers.items()), [("z", 1), ("x", 1), ("y", 2)])

    def test_errors(self):
        questions = (SPLIT, wrong_objects(Question), InvalidQuestion)
        databases = (ROWS, wrong_objects(Database), InvalidDatabase)
        answers = ((1,), wrong_answers(1), InvalidAnswer)
        self.check_errors(lambda *both: list(matches(*both)), questions, databases)
        self.check_errors(lambda *three: list(matches_of(*three)), questions, databases, answers)
        self.check_errors(first_match, questions, databases, answers)
        indices = (1, wrong_indices(2), InvalidNumber)
        self.check_errors(lambda *three: is_match(*three, {"x": 1}), questions, databases, indices)
        numbers = ({"x": 1}, wrong_bindings(["x"]), InvalidOperation)
        self.check_errors(answer_of, questions, indices, numbers)
        self.check_errors(rows_of, questions, indices, numbers)

    def test_errors_at_other_widths(self):
        for width in (0, 2, 3):
            question = Question(make_rule((4,) * width))
            self.check_errors(lambda answer: first_match(question, ROWS, answer),
                              ((4,) * width, wrong_answers(width), InvalidAnswer))
        self.assert_error(InvalidAnswer, first_match, [Question(width=2), ROWS, (1,)])
        for index in (0, -1, True):
            self.assert_error(InvalidNumber, lambda value: is_match(Question(), ROWS, value, {}), [index], index)
            self.assert_error(InvalidNumber, lambda value: rows_of(Question(width=3), value, {}), [index], index)
        rule = make_rule((), ("r", "x", "y"))
        for function in (answer_of, rows_of):
            self.check_errors(lambda numbers: function(Question(rule), 0, numbers),
                              ({"x": 1, "y": 2}, wrong_bindings(["x", "y"]), InvalidOperation))
            self.check_errors(lambda numbers: function(EITHER, 0, numbers), ({}, wrong_bindings([]), InvalidOperation))

    def test_errors_come_with_the_first_result(self):
        self.check_lazy(matches, InvalidQuestion, [None, None])
        self.check_lazy(matches, InvalidDatabase, [ALONE, (("t", 1),)])
        self.check_lazy(matches_of, InvalidQuestion, [ROWS, ROWS, None])
        self.check_lazy(matches_of, InvalidDatabase, [ALONE, ALONE, None])
        self.check_lazy(matches_of, InvalidAnswer, [ALONE, ROWS, (True,)])


if __name__ == "__main__":
    unittest.main()
