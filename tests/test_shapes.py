"""Shapes: promises [15.1] and [15.2]."""

import random
import unittest
from itertools import permutations

from firmrows.base.databases import Database
from firmrows.early.shapes import (
    MAX_ROWS, are_alike, findings, found_answers, is_finding, is_found_in, is_shape, normal_form, symmetries,
)
from firmrows.errors import InvalidAnswer, InvalidDatabase, InvalidOperation, InvalidShape, TooMany
from tests import oracle
from tests.chance import SHAPE_NUMBERS, inner_shape, shape_row, some_fixed, some_shape
from tests.samples import (
    HUGE, ROWS, ErrorTests, every_value, looks_like_fixed, looks_like_integers, looks_like_shape, looks_like_shapes, wrong_for,
    wrong_objects,
)

RING = ((), (("r", 4, 7), ("r", 7, 4)))
TWELVE = tuple(("t", number) for number in range(12))
SHAPES = (RING, wrong_for(looks_like_shape), InvalidShape)
DATABASES = (ROWS, wrong_objects(Database), InvalidDatabase)
FIXED = ((), wrong_for(looks_like_fixed), InvalidOperation)
SETS = ((RING,), wrong_for(looks_like_shapes), InvalidOperation)


def some_case(source):
    """A shape, a database in which it may be found, an answer, and fixed integers."""
    numbers = source.sample(SHAPE_NUMBERS, source.randrange(1, 5))
    others = source.sample(SHAPE_NUMBERS, source.randrange(1, 6))
    shape = some_shape(source, numbers)
    base = Database(*[shape_row(source, source.choice((numbers, others))) for _ in range(source.randrange(10))])
    answer = tuple(source.choice(numbers + others) for _ in shape[0])
    if source.random() < 0.6:
        names = oracle.numbers_of(shape)
        answer, rows = oracle.image(shape, dict(zip(names, source.sample(SHAPE_NUMBERS, len(names)))))
        base = base.with_rows(*rows)
    return shape, base, answer, some_fixed(source, numbers + [number for number in (5, 6, 1) if number not in numbers])


class ShapeTests(ErrorTests):
    def test_form(self):
        self.assertEqual(MAX_ROWS, 12)
        for value, expected in (
                (((), ()), True), (((1, 1, 1), ()), True), (((1,) * 4, ()), False), (((), TWELVE[:11] + (("t", 11),)), True),
                (((), tuple(("t", number) for number in range(13))), False), (((), (("t", 2), ("t", 1))), False),
                (((), (("t", 1), ("t", 1))), False), (((True,), ()), False), (((), (("t", True),)), False), (((), (("t", "x"),)), False),
                (((), [("t", 1)]), False), (([], ()), False), ([(), ()], False), (((), (), ()), False), (((),), False),
                (((HUGE, -HUGE), (("r", -HUGE, HUGE),)), True), (((), (("a",), ("a", 1), ("a", 1, 0), ("a", 2))), True),
                (((), (("a", 1), ("a",))), False), (((), (("t", False), ("t", 1))), False)):
            self.assertIs(is_shape(value), expected, value)
        for value in every_value():
            self.assertIs(is_shape(value), looks_like_shape(value))
            self.assertIs(is_shape((value, ())), looks_like_shape((value, ())))
            self.assertIs(is_shape(((), value)), looks_like_shape(((), value)))
            self.assertIs(is_shape(((), (value,))), looks_like_shape(((), (value,))))

    def test_findings_by_trial(self):
        source = random.Random(151)
        many = 0
        for _ in range(3000):
            shape, base, answer, fixed = some_case(source)
            expected = oracle.findings(shape, base.rows, answer, fixed)
            found = list(findings(shape, base, answer, fixed=fixed))
            self.assertEqual(found, expected, (shape, base.rows, answer, fixed))
            self.assertEqual([list(table) for table in found], [oracle.numbers_of(shape)] * len(found))
            many += len(found) > 1
            for table in found[:3]:
                self.assertIs(is_finding(shape, base, answer, table, fixed=fixed), True)
                self.assertIs(is_finding(shape, base, answer, dict(reversed(table.items())), fixed=fixed), True)
        self.assertGreater(many, 100)

    def test_near_dicts(self):
        source = random.Random(152)
        told = []
        for _ in range(2000):
            shape, base, answer, fixed = some_case(source)
            expected = oracle.findings(shape, base.rows, answer, fixed)
            table = dict(source.choice(expected)) if expected else {number: number for number in oracle.numbers_of(shape)}
            if table:
                name = source.choice(list(table))
                table[name] = source.choice(SHAPE_NUMBERS)
            told.append(table in expected)
            self.assertIs(is_finding(shape, base, answer, table, fixed=fixed), table in expected)
        self.assertGreater(min(told.count(True), told.count(False)), 200)
        shape = ((1,), (("t", 1),))
        for value, expected in (({1: 2}, True), ({1: 3}, False), ({}, False), ({1: 2, 3: 4}, False), ({True: 2}, False),
                                ({1: True}, False), ([(1, 2)], False), ((1, 2), False), ({1: (2,)}, False), (None, False)):
            self.assertIs(is_finding(shape, ROWS, (2,), value), expected)
        self.assertIs(is_finding(shape, ROWS, (1,), {1: True}), False)
        self.assertIs(is_finding(shape, ROWS, (2,), {1: 2}, fixed=(2,)), False)
        self.assertIs(is_finding(shape, ROWS, (1,), {1: 1}, fixed=(1,)), True)
        for value in every_value():
            self.assertIs(is_finding(shape, ROWS, (2,), value), type(value) is dict and list(map(repr, value.items())) == ["(1, 2)"])
        hundred = Database(*[("t", number) for number in range(100)])
        self.assertIs(is_finding(shape, hundred, (99,), {1: 99}), True)

    def test_integers_that_stand_alone(self):
        # In the head alone: they become those of the answer, also such as the database does not have.
        self.assertEqual(list(findings(((5, 6), ()), ROWS, (8, 9))), [{5: 8, 6: 9}])
        self.assertEqual(list(findings(((5, 6), ()), ROWS, (8, 8))), [])
        self.assertEqual(list(findings(((5, 5), ()), ROWS, (8, 9))), [])
        self.assertEqual(list(findings(((5,), ()), ROWS, (8,), fixed=(8,))), [])
        self.assertEqual(list(findings(((8,), ()), ROWS, (8,), fixed=(8,))), [{8: 8}])
        self.assertEqual(list(findings(((5,), (("t", 6),)), ROWS, (1,))), [{5: 1, 6: 2}])
        # Fixed ones that stand nowhere in the shape, or nowhere in the database.
        self.assertEqual(list(findings(((), (("t", 6),)), ROWS, (), fixed=(1,))), [{6: 2}])
        self.assertEqual(list(findings(((), (("t", 6),)), ROWS, (), fixed=(6,))), [])
        self.assertEqual(list(findings(((), ()), Database(), ())), [{}])

    def test_generators(self):
        shape = ((), (("t", 0), ("t", 1)))
        base = Database(*[("t", number) for number in range(5)])
        one, two = findings(shape, base, ()), findings(shape, base, ())
        self.assertEqual([next(one), next(two), next(one), next(two)], [{0: 0, 1: 1}] * 2 + [{0: 0, 1: 2}] * 2)
        self.assertEqual(len(list(one)), 18)
        self.assertEqual(len(list(findings(shape, base, ()))), 20)
        table = next(two)
        table[0] = 77
        self.assertEqual(next(two), {0: 0, 1: 4})
        sixty = Database(*[("t", number) for number in range(60)])
        self.assertEqual(next(findings(((), TWELVE), sixty, ())), {number: number for number in range(12)})
        eleven = Database(*[("t", number) for number in range(11)])
        self.assertEqual(list(findings(((), TWELVE), eleven, ())), [])
        chain = ((), tuple(sorted(("r", number, number + 1) for number in range(12))))
        rows = [("r", number, number + 1) for number in range(59)] + [("r", 59, 0)]
        self.assertEqual(len(list(findings(chain, Database(*rows), ()))), 60)

    def test_found_in_and_alike_by_trial(self):
        source = random.Random(153)
        told = []
        for _ in range(3000):
            shape, base, _, fixed = some_case(source)
            names = oracle.numbers_of(shape)
            other = oracle.image(shape, dict(zip(names, source.sample(SHAPE_NUMBERS, len(names)))))
            if source.random() < 0.6:
                more = set(other[1]) | set(source.sample(base.rows, source.randrange(min(3, len(base) + 1))))
                other = (other[0], tuple(sorted(more)))
            if source.random() < 0.1:
                other = (other[0][1:], other[1])
            expected = oracle.is_found_in(shape, other, fixed)
            back = oracle.is_found_in(other, shape, fixed)
            told.append((expected, back))
            self.assertIs(is_found_in(shape, other, fixed=fixed), expected)
            self.assertIs(is_found_in(other, shape, fixed=fixed), back)
            self.assertIs(are_alike(shape, other, fixed=fixed), expected and back)
            self.assertIs(are_alike(other, shape, fixed=fixed), expected and back)
            if len(oracle.numbers_of(other)) < 7:
                self.assertIs(normal_form(shape, fixed=fixed) == normal_form(other, fixed=fixed), expected and back)
        for kind in ((True, True), (True, False), (False, False)):
            self.assertGreater(told.count(kind), 100)

    def test_normal_forms_and_symmetries_by_trial(self):
        source = random.Random(154)
        for _ in range(2500):
            numbers = source.sample(SHAPE_NUMBERS, source.randrange(1, 6))
            shape = some_shape(source, numbers, source.choice((3, 6, 9)))
            fixed = some_fixed(source, numbers + [number for number in (5, 6, 1) if number not in numbers])
            found = normal_form(shape, fixed=fixed)
            self.assertEqual(found, oracle.normal_form(shape, fixed), (shape, fixed))
            self.assertIs(are_alike(shape, found, fixed=fixed), True)
            self.assertEqual(symmetries(shape, fixed=fixed), len(oracle.findings(shape, shape[1], shape[0], fixed)))

    def test_six_integers(self):
        source = random.Random(155)
        rings = [("r", number, (number + 1) % 6) for number in range(6)]
        for rows, many in ((TWELVE[:6], 720), (rings, 6), (rings + [row[:1] + row[:0:-1] for row in rings], 12),
                           ([("r", number, number ^ 1) for number in range(6)], 48), ([("u", 0, 1, 2), ("u", 3, 4, 5)], 2)):
            shape = ((), tuple(sorted(rows)))
            self.assertEqual(symmetries(shape), many)
            for chosen in source.sample(list(permutations(range(6))), 3):
                other = oracle.image(shape, dict(enumerate(chosen)))
                self.assertEqual(normal_form(other), oracle.normal_form(shape, ()))
                self.assertIs(are_alike(shape, other), True)
        for _ in range(25):
            shape = some_shape(source, [-5, 1, 2, 3, 5, 8], 12)
            self.assertEqual(normal_form(shape), oracle.normal_form(shape, ()))
            shape = some_shape(source, [-5, 0, 1, 2, 3, 5, 8, 9], 12)
            self.assertEqual(normal_form(shape, fixed=(-5, 1)), oracle.normal_form(shape, (-5, 1)))

    def test_fixed_ones_in_between(self):
        shape = ((9,), (("r", 9, 4), ("t", 7)))
        self.assertEqual(normal_form(shape), ((0,), (("r", 0, 1), ("t", 2))))
        self.assertEqual(normal_form(shape, fixed=(0, 2)), ((1,), (("r", 1, 3), ("t", 4))))
        self.assertEqual(normal_form(shape, fixed=(-3, 1, 4)), ((0,), (("r", 0, 4), ("t", 2))))
        # What is least can change by a fixed one.
        self.assertEqual(normal_form(((), (("r", 2, 9), ("r", 9, 3))), fixed=(2, 3)), ((), (("r", 0, 3), ("r", 2, 0))))

    def test_seven_integers(self):
        seven = ((), tuple(("t", number) for number in range(7)))
        for function, expected in ((normal_form, seven), (symmetries, 5040), (lambda shape: is_found_in(shape, shape), True),
                                   (lambda shape: are_alike(shape, shape), True)):
            try:
                self.assertEqual(function(seven), expected)
            except TooMany as error:
                self.assertEqual(error.limit, 6)
        self.assertEqual(normal_form(seven, fixed=(3,)), ((), tuple(("t", number) for number in range(7))))
        self.assertEqual(symmetries(seven, fixed=(3,)), 720)

    def test_found_answers_by_trial(self):
        source = random.Random(156)
        many = 0
        for _ in range(1200):
            fixed = some_fixed(source, [0, 1, 2, 7])
            width = source.randrange(3)
            shapes = tuple(inner_shape(source, width, fixed) for _ in range(source.randrange(4)))
            base = Database(*[shape_row(source, [0, 1, 2, 3]) for _ in range(source.randrange(25))])
            found = found_answers(shapes, base, fixed=fixed)
            self.assertEqual(found, oracle.found_answers(shapes, base.rows, fixed))
            many += len(found)
        self.assertGreater(many, 500)
        self.assertEqual(found_answers((), ROWS), ())
        self.assertEqual(found_answers((((), ()),), Database()), ((),))
        self.assertEqual(found_answers((((3,), ()),), Database(), fixed=(3,)), ((3,),))
        sixty = Database(*[("t", number) for number in range(60)])
        self.assertEqual(len(found_answers((((0, 1), TWELVE),), sixty)), 3540)

    def test_heads_of_found_answers(self):
        for shapes, fixed, right in (
                ((((1,), ()),), (), False), ((((1,), ()),), (1,), True), ((((1,), (("t", 1),)),), (), True),
                ((((1,), (("t", 2),)),), (2,), False), ((((1,), (("t", 1),)), ((2,), (("t", 1),))), (), False),
                ((((1, 2), (("t", 1),)),), (2,), True)):
            if right:
                self.assertEqual(type(found_answers(shapes, ROWS, fixed=fixed)), tuple)
            else:
                self.assert_error(InvalidOperation, lambda given: found_answers(given, ROWS, fixed=fixed), [shapes])
        self.assert_error(InvalidDatabase, lambda shapes: found_answers(shapes, None), [(((1,), ()),)])
        self.assert_error(InvalidOperation, lambda shapes: found_answers(shapes, ROWS), [(((1,), (("t", 1),)), ((), ()))])

    def test_errors(self):
        wrong_answer = wrong_for(lambda value: looks_like_integers(value) and len(value) == 0)
        answers = ((), wrong_answer, InvalidAnswer)
        self.check_errors(lambda shape, base, answer, fixed: list(findings(shape, base, answer, fixed=fixed)), SHAPES, DATABASES, answers, FIXED)
        self.check_errors(lambda shape, base, answer, fixed: is_finding(shape, base, answer, None, fixed=fixed),
                          SHAPES, DATABASES, answers, FIXED)
        for function in (is_found_in, are_alike):
            self.check_errors(lambda shape, other, fixed: function(shape, other, fixed=fixed), SHAPES, SHAPES, FIXED)
        for function in (symmetries, normal_form):
            self.check_errors(lambda shape, fixed: function(shape, fixed=fixed), SHAPES, FIXED)
        self.check_errors(lambda shapes, base, fixed: found_answers(shapes, base, fixed=fixed), SETS, DATABASES, FIXED)
        self.check_lazy(findings, InvalidShape, [None, None, None])
        self.check_lazy(findings, InvalidDatabase, [RING, None, None])
        self.check_lazy(lambda shape: findings(shape, ROWS, (), fixed=(2, 1)), InvalidOperation, [RING])
        for fixed in ((1, 1), (2, 1), (True,), (False, 1), [1], (1, None)):
            self.assert_error(InvalidOperation, lambda given: normal_form(RING, fixed=given), [fixed])
        self.assertRaises(TypeError, normal_form, RING, ())


if __name__ == "__main__":
    unittest.main()
