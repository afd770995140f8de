"""Least sets of shapes: promises [16.1] and [16.2]."""

import random
import unittest
from itertools import combinations

from firmrows.ask.questions import Question, make_rule
from firmrows.base.databases import Database
from firmrows.compare.named import mattering
from firmrows.compare.within import comparison
from firmrows.early.early import early_paper, is_early, is_early_paper
from firmrows.early.least import is_set_within, least_set, question_of, reduced, set_and, set_or
from firmrows.early.shapes import found_answers, is_found_in, normal_form
from firmrows.errors import InvalidNumber, InvalidOperation, InvalidQuestion, NotEarly, TooMany
from tests import oracle
from tests.chance import early_question, inner_shape, some_database, some_fixed, some_small_question, some_variation
from tests.samples import (
    ALONE, EITHER, SPLIT, ErrorTests, every_value, is_plain_integer, looks_like_fixed, looks_like_shapes, wrong_for, wrong_objects,
)

PLAIN = Question(make_rule(("x",), ("t", "x")))
THREE = Question(make_rule(("x",), ("t", "x"), unlike=(("x", 3),)), make_rule((3,), ("t", 3)))
TWO = (((0,), (("t", 0), ("t", 1))),)
SETS = (TWO, wrong_for(looks_like_shapes), InvalidOperation)
FIXED = ((), wrong_for(looks_like_fixed), InvalidOperation)


def some_sets(source, free=3, most=3):
    """Two tuples of shapes whose heads have one length, and fixed integers."""
    fixed = some_fixed(source, [0, 1, 4])
    width = source.randrange(3)
    one = tuple(inner_shape(source, width, fixed, most, free) for _ in range(source.randrange(4)))
    return one, tuple(inner_shape(source, width, fixed, most, free) for _ in range(source.randrange(4))), fixed


def databases_for(source, *tuples):
    """Databases in which some of the shapes are found, and others."""
    for _ in range(6):
        rows = [row for shapes in tuples for shape in shapes if source.random() < 0.7
                for row in oracle.image(shape, {number: source.choice((number, source.randrange(6))) for number in oracle.numbers_of(shape)})[1]]
        base = Database(*rows)
        yield base.without_rows(*source.sample(base.rows, source.randrange(min(3, len(base) + 1)))).with_rows(
            *some_database(source, 3).rows[:4])


class LeastTests(ErrorTests):
    def check_least(self, shapes, fixed):
        """The shapes are normal forms, ascending, and none is found in another one."""
        self.assertEqual(shapes, tuple(sorted(set(shapes))))
        for shape in shapes:
            self.assertEqual(normal_form(shape, fixed=fixed), shape)
        for one, other in combinations(shapes, 2):
            self.assertFalse(is_found_in(one, other, fixed=fixed) or is_found_in(other, one, fixed=fixed))

    def test_least_sets_by_the_words_of_the_document(self):
        source = random.Random(161)
        many = some_fixed_ones = idle = 0
        for _ in range(500):
            question = early_question(source, source.randrange(3))
            fixed, shapes = least_set(question)
            self.assertEqual(fixed, mattering(question))
            forms = {oracle.normal_form((head, rows), fixed) for head, rows, _ in oracle.frozen_rules(question.rules, ())
                     if len({number for row in rows for number in row[1:]} - set(fixed)) < 6}
            expected = [form for form in forms if not any(
                other != form and oracle.is_found_in(other, form, fixed) for other in forms)]
            self.assertEqual(shapes, tuple(sorted(expected)), question.rules)
            self.check_least(shapes, fixed)
            many += len(shapes) > 1
            some_fixed_ones += len(fixed) > 0
            idle += len(fixed) < len(question.named)
        self.assertGreater(min(many, some_fixed_ones, idle), 40)

    def test_found_answers_are_the_answers(self):
        source = random.Random(162)
        many = 0
        for _ in range(400):
            question = early_question(source, source.randrange(3))
            fixed, shapes = least_set(question)
            for _ in range(4):
                base = some_database(source, 3)
                self.assertEqual(found_answers(shapes, base, fixed=fixed), question(base))
                many += len(question(base))
        self.assertGreater(many, 300)

    def test_all_databases_of_a_few_rows(self):
        source = random.Random(163)
        done = 0
        while done < 60:
            question = early_question(source, source.randrange(2))
            rows = oracle.all_rows(oracle.tables_of(question.rules), question.named[:2] + (50,))
            if len(rows) < 9:
                done += 1
                fixed, shapes = least_set(question)
                for some in oracle.subsets(rows):
                    self.assertEqual(found_answers(shapes, Database(*some), fixed=fixed), oracle.answers(question.rules, some))

    def test_equal_sets_for_equal_questions(self):
        source = random.Random(164)
        told = []
        for _ in range(1200):
            one = early_question(source, source.randrange(2))
            other = some_variation(source, one)
            if source.random() < 0.3:
                other = Question(*reversed(one.rules), *other.rules[:1], width=one.width)
            if is_early(other):
                equal = comparison(one, other) == "equal"
                told.append(equal)
                self.assertIs(least_set(one) == least_set(other), equal)
        self.assertGreater(min(told.count(True), told.count(False)), 50)

    def test_other_rules_and_names(self):
        for question in (SPLIT, PLAIN, THREE, Question(make_rule(("y",), ("t", "y"), ("t", "z"))),
                         Question(make_rule(("x",), ("t", "x"), barred=(("s", 5),)), make_rule(("x",), ("t", "x"), ("s", 5)))):
            self.assertEqual(least_set(question), ((), (((0,), (("t", 0),)),)))
        self.assertEqual(least_set(Question()), ((), ()))
        self.assertEqual(least_set(Question(width=3)), ((), ()))
        self.assertEqual(least_set(Question(make_rule((), barred=(("a",),)), make_rule((), ("a",)))), ((), (((), ()),)))
        self.assertEqual(least_set(Question(make_rule((7,), ("a",)))), ((7,), (((7,), (("a",),)),)))
        self.assertEqual(least_set(Question(make_rule((), ("r", "x", "y"), unlike=(("x", "y"),)))), ((), (((), (("r", 0, 1),)),)))
        self.assertEqual(least_set(Question(make_rule((), ("r", "x", "y")))), ((), (((), (("r", 0, 0),)), ((), (("r", 0, 1),)))))
        self.assertEqual(least_set(Question(make_rule((), ("t", "x"), unlike=(("x", 0),)))), ((0,), (((), (("t", 1),)),)))
        # Named integers, many of them, that do not matter.
        idle = Question(make_rule((), ("u", 1, 2, 3), ("u", 4, 5, 6), ("u", 7, 8, 9)), make_rule((), ("u", "a", "b", "c")))
        self.assertEqual(least_set(idle), ((), tuple(sorted(((), (("u",) + row,)) for row in (
            (0, 0, 0), (0, 0, 1), (0, 1, 0), (0, 1, 1), (0, 1, 2))))))

    def test_late_questions(self):
        source = random.Random(165)
        late = 0
        for _ in range(300):
            question = some_small_question(source, source.randrange(2))
            if not is_early(question):
                late += 1
                with self.assertRaises(NotEarly) as caught:
                    least_set(question)
                self.assertEqual(caught.exception.paper[0], "late")
                self.assertIs(is_early_paper(question, caught.exception.paper), True)
        self.assertGreater(late, 50)
        for question in (ALONE, EITHER):
            with self.assertRaises(NotEarly) as caught:
                least_set(question)
            self.assertEqual(caught.exception.paper[0], early_paper(question)[0])

    def test_limit_of_least_sets(self):
        four = (("t", "a"), ("t", "b"), ("t", "c"), ("t", "d"))
        many = Question(make_rule((), *four), *[make_rule((), *[("t", 4 * at + number) for number in range(4)]) for at in range(7)])
        try:
            self.assertEqual(least_set(many), ((), (((), (("t", 0),)),)))
        except TooMany as error:
            self.assertEqual(error.limit, 2000)
        rule = make_rule((), ("u", "a", "b", "c"), ("v", "b", "c", "d"), ("t", 0), ("t", 1))
        wide = Question(rule, make_rule((), ("t", 2), ("t", 3), ("t", 4)))
        fixed, shapes = least_set(wide)
        self.assertEqual([fixed, len(shapes)], [(0, 1, 2, 3, 4), 1541])

    def test_sets_by_found_answers(self):
        source = random.Random(166)
        told = []
        for _ in range(300):
            one, other, fixed = some_sets(source, 2)
            both, either, less = set_and(one, other, fixed=fixed), set_or(one, other, fixed=fixed), reduced(one, fixed=fixed)
            for shapes in (both, either, less):
                self.check_least(shapes, fixed)
            within = True
            for base in databases_for(source, one, other, both):
                ours, theirs = found_answers(one, base, fixed=fixed), found_answers(other, base, fixed=fixed)
                self.assertEqual(found_answers(less, base, fixed=fixed), ours)
                self.assertEqual(found_answers(either, base, fixed=fixed), tuple(sorted(set(ours) | set(theirs))))
                self.assertEqual(found_answers(both, base, fixed=fixed), tuple(sorted(set(ours) & set(theirs))))
                within = within and set(ours) <= set(theirs)
                told.append(len(set(ours) & set(theirs)) > 0)
            if not within:
                self.assertIs(is_set_within(one, other, fixed=fixed), False)
            for shapes, others in ((both, one), (one, either), (one, less), (less, one), (one, other)):
                expected = all(any(oracle.is_found_in(part, shape, fixed) for part in others) for shape in shapes)
                self.assertIs(is_set_within(shapes, others, fixed=fixed), expected)
            self.assertTrue(is_set_within(both, one, fixed=fixed) and is_set_within(one, either, fixed=fixed))
        self.assertGreater(min(told.count(True), told.count(False)), 100)

    def test_all_databases_for_sets(self):
        source = random.Random(167)
        rows = [("a",), ("t", 0), ("t", 1), ("t", 2), ("s", 0), ("s", 1), ("r", 0, 1), ("r", 1, 0), ("r", 0, 0)]
        tables = [("a", 0), ("t", 1), ("s", 1), ("r", 2)]
        for _ in range(25):
            fixed = source.choice(((), (0,), (1,)))
            pick = oracle.all_rows(tables, [0, 1, 2])
            one, other = [tuple(((), tuple(sorted(source.sample(pick, source.randrange(1, 4))))) for _ in range(2)) for _ in range(2)]
            both, either = set_and(one, other, fixed=fixed), set_or(one, other, fixed=fixed)
            for some in oracle.subsets(rows):
                base = Database(*some)
                ours, theirs = bool(found_answers(one, base, fixed=fixed)), bool(found_answers(other, base, fixed=fixed))
                self.assertEqual([bool(found_answers(both, base, fixed=fixed)), bool(found_answers(either, base, fixed=fixed))],
                                 [ours and theirs, ours or theirs])

    def test_least_sets_of_or(self):
        # [16.2]: equal questions have equal least sets; so that of two early questions together is that of both sets.
        source = random.Random(168)
        for _ in range(100):
            one = early_question(source, 1)
            other = early_question(source, 1)
            if len(one) + len(other) > 8 or one.named or other.named:
                continue
            self.assertEqual(least_set(one | other)[1], set_or(least_set(one)[1], least_set(other)[1]))

    def test_small_sets(self):
        t, pair = ((), (("t", 5),)), ((), (("t", 1), ("t", 2)))
        self.assertEqual(reduced((pair, t, pair)), (((), (("t", 0),)),))
        self.assertEqual(reduced((pair, t), fixed=(5,)), (((), (("t", 0), ("t", 1))), ((), (("t", 5),))))
        self.assertEqual([reduced(()), set_or((), ()), set_and((), (t,)), set_and((t,), ()), set_or((), (t,))],
                         [(), (), (), (), (((), (("t", 0),)),)])
        self.assertEqual([is_set_within((), ()), is_set_within((), (t,)), is_set_within((t,), ()), is_set_within((pair,), (t,)),
                          is_set_within((t,), (pair,))], [True, True, False, True, False])
        self.assertEqual(set_and((((1,), (("t", 1),)),), (((2,), (("s", 2),)),)), (((0,), (("s", 0), ("t", 0))),))
        self.assertEqual(set_and((((1,), (("t", 1),)),), (((2,), (("s", 2),)),), fixed=(1,)), ())
        self.assertEqual(set_and((((1,), (("t", 1),)),), (((1,), (("s", 1),)),), fixed=(1,)), (((1,), (("s", 1), ("t", 1))),))
        self.assertEqual(set_and((((1, 2), (("r", 1, 2),)),), (((3, 3), (("t", 3),)),)), ())
        self.assertEqual(set_and((((), (("t", 1),)),), (((), (("s", 2),)),)), (((), (("s", 0), ("t", 0))), ((), (("s", 0), ("t", 1)))))

    def test_twelve_rows_and_six_integers(self):
        eight = tuple(sorted(("r", one, other) for one in range(3) for other in range(3)))[:8]
        four = tuple(sorted(("s", number, 0) for number in range(3))) + (("t", 0),)
        found = set_and((((0,), eight),), (((0,), four),))
        self.assertGreater(len(found), 1)
        self.assertEqual(max(len(rows) for _, rows in found), 12)
        for function, limit in ((lambda: set_and((((), eight),), (((), four + (("t", 1),)),)), 12),
                                (lambda: set_and((((), tuple(("t", number) for number in range(4))),),
                                                 (((), tuple(("s", number) for number in range(3))),)), 6),
                                (lambda: reduced((((), tuple(("t", number) for number in range(7))),)), 6)):
            try:
                function()
            except TooMany as error:
                self.assertEqual(error.limit, limit)
        seven = ((), tuple(("t", number) for number in range(7)))
        six = ((), tuple(("t", number) for number in range(6)))
        self.assertIs(is_set_within((seven,), (six,)), True)
        self.assertIs(is_set_within((six,), (seven,)), False)

    def test_questions_of_shapes(self):
        self.assertEqual(question_of((((0,), (("t", 0),)),), fixed=(3,)).rules, ((("a",), (("t", "a"),), (), (("a", 3),)),))
        self.assertEqual(question_of((((9,), (("r", -1, 9), ("t", 4))),)).rules,
                         ((("c",), (("r", "a", "c"), ("t", "b")), (), (("a", "b"), ("a", "c"), ("b", "c"))),))
        self.assertEqual(question_of((((2, 7), (("r", 2, 5), ("t", 7))),), fixed=(5, 7)).rules,
                         ((("a", 7), (("r", "a", 5), ("t", 7)), (), (("a", 5), ("a", 7))),))
        self.assertEqual(question_of((((), ()),), width=0).rules, (((), (), (), ()),))
        self.assertEqual([question_of(()).width, question_of((), width=2).width, len(question_of((), width=2))], [0, 2, 0])
        twice = (((1,), (("t", 1),)), ((2,), (("t", 2),)))
        self.assertEqual(len(question_of(twice)), 1)
        source = random.Random(169)
        done = 0
        while done < 200:
            one, _, fixed = some_sets(source, 2, 4)
            try:
                question = question_of(one, fixed=fixed, width=len(one[0][0]) if one else None)
            except TooMany as error:
                self.assertIn(error.limit, (4, 8))
                continue
            done += 1
            self.assertIs(is_early(question), True)
            for base in databases_for(source, one):
                self.assertEqual(question(base), found_answers(one, base, fixed=fixed))

    def test_limits_of_questions(self):
        rows = tuple(("t", number) for number in range(5))
        for shapes, fixed, limit in (
                ((((), rows),), (0, 1, 2, 3, 4), 4), ((((), (("r", 0, 1), ("r", 2, 3))),), (), 4), ((((), rows[:3]),), (), None),
                ((((), rows[:3]),), (9,), 4), ((((), rows[:1]),), (5, 6, 7, 8), None), ((((), rows[:1]),), (5, 6, 7, 8, 9), 4),
                ((((), rows[:4]),), (0, 1, 2, 3), None), ((((), rows[:4]),), (1, 2, 3), None), ((((), rows[:1]),) * 8, (), None),
                ((((), rows[:1]),) * 9, (), 8), ((((), rows[:1]),) * 9 + (((), rows),), (), 4), ((((), ()),), (1, 2, 3, 4, 5), None)):
            if limit is None:
                self.assertEqual(len(question_of(shapes, fixed=fixed)), 1)
            else:
                with self.assertRaises(TooMany) as caught:
                    question_of(shapes, fixed=fixed)
                self.assertEqual(caught.exception.limit, limit)

    def test_errors(self):
        self.check_errors(least_set, (SPLIT, wrong_objects(Question), InvalidQuestion))
        self.check_errors(lambda shapes, fixed: reduced(shapes, fixed=fixed), SETS, FIXED)
        for function in (set_or, set_and, is_set_within):
            self.check_errors(lambda shapes, others, fixed: function(shapes, others, fixed=fixed), SETS, SETS, FIXED)
        width = (1, wrong_for(lambda value: value is None or is_plain_integer(value) and 0 <= value < 4), InvalidNumber)
        self.check_errors(lambda shapes, fixed, width: question_of(shapes, fixed=fixed, width=width), SETS, FIXED, width)
        lone = (((5,), ()),)
        for function in (reduced, question_of, lambda shapes: set_or(shapes, ()), lambda shapes: set_and((), shapes),
                         lambda shapes: is_set_within(TWO, shapes), lambda shapes: is_set_within(shapes, TWO)):
            self.assert_error(InvalidOperation, function, [lone])
        for function in (set_or, set_and, is_set_within):
            self.assert_error(InvalidOperation, function, [TWO, (((), ()),)])
            function((), TWO)
            function(TWO, ())
        for value in (0, 2, 3):
            self.assert_error(InvalidOperation, lambda given: question_of(TWO, width=given), [value])
        self.assert_error(InvalidNumber, lambda given: question_of(lone, width=given), [4], 4)
        for value in every_value():
            self.assertRaises(TypeError, reduced, TWO, value)


if __name__ == "__main__":
    unittest.main()
