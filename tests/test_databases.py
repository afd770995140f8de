"""[0.2], [0.10] and stage 2 of the document: databases."""

import unittest

from firmrows.base.databases import Database
from firmrows.errors import InvalidDatabase, InvalidOperation, InvalidPattern, InvalidRow
from tests import oracle
from tests.samples import (
    HUGE, ROWS, ObjectTests, every_value, looks_like_exchange, looks_like_integers, looks_like_row,
    wrong_for, wrong_objects, wrong_patterns, wrong_rows,
)

MIXED = (("t", 2), ("t", 1), ("r", 3, -1), ("r", 3, -1), ("b",), ("b", HUGE), ("a", 1, 2, 3), ("t", -HUGE), ("r", 0, 7))
SIXTY = tuple(("t", number, -number) for number in range(60))


class DatabaseTests(ObjectTests):
    def test_rows(self):
        self.assertEqual(Database().rows, ())
        self.assertEqual(Database(*MIXED).rows, tuple(sorted(set(MIXED))))
        self.assertEqual(Database(("t", 2), ("t", 1), ("s", 2), ("t", 2)).rows, (("s", 2), ("t", 1), ("t", 2)))
        self.assertEqual(Database(("b", 1), ("b",), ("b", 0, 5), ("b", -1)).rows, (("b",), ("b", -1), ("b", 0, 5), ("b", 1)))
        self.assertEqual(Database.of(MIXED), Database(*reversed(MIXED)))
        self.assertEqual(Database.of(()), Database())
        self.assertIsInstance(Database.of(MIXED), Database)

    def test_sixty_rows_and_more(self):
        many = Database(*SIXTY)
        self.assertEqual((len(many), many.rows), (60, SIXTY))
        more = many | Database(*[("s", number) for number in range(60)])
        self.assertEqual(len(more), 120)
        self.assertEqual(len(more - many), 60)
        self.assertEqual(more & many, many)
        self.assertEqual(len(more ^ many), 60)
        self.assertEqual(len(more.with_rows(("a",))), 121)
        self.assertEqual(len(list(more.fitting(("t", "x", "y")))), 60)
        self.assertIs(many.is_within(more), True)
        self.assertIs(more.is_within(many), False)
        self.assertIn(("s", 59), more)
        self.assertEqual(len(more.moved({0: 1000})), 120)
        self.assertEqual(more.cut((0, 1, -1)).rows, (("s", 0), ("s", 1), ("t", 0, 0), ("t", 1, -1)))
        self.assertEqual(str(more), "database of 120 rows")

    def test_numbers(self):
        self.assertEqual(Database().numbers, ())
        self.assertEqual(Database(("a",)).numbers, ())
        self.assertEqual(Database(*MIXED).numbers, (-HUGE, -1, 0, 1, 2, 3, 7, HUGE))
        self.assertEqual(ROWS.numbers, (1, 2))

    def test_tables(self):
        self.assertEqual(Database().tables, ())
        self.assertEqual(Database(*MIXED).tables, (("a", 3), ("b", 0), ("b", 1), ("r", 2), ("t", 1)))

    def test_with_and_without_rows(self):
        self.assertEqual(ROWS.with_rows(), ROWS)
        self.assertEqual(ROWS.without_rows(), ROWS)
        self.assertEqual(ROWS.with_rows(("t", 1), ("b",), ("b",)).rows, (("b",), ("s", 2), ("t", 1), ("t", 2)))
        self.assertEqual(ROWS.without_rows(("t", 1), ("b",), ("t", 1)).rows, (("s", 2), ("t", 2)))
        self.assertEqual(ROWS.without_rows(*ROWS.rows), Database())
        self.assertEqual(Database().with_rows(*MIXED), Database(*MIXED))
        self.assertEqual(ROWS.rows, (("s", 2), ("t", 1), ("t", 2)))

    def test_fitting(self):
        base = Database(("r", 1, 1), ("r", 2, 1), ("r", 2, 2), ("r", 1), ("s", 1, 1), ("r",))
        self.assertEqual(list(base.fitting(("r", "x", "x"))), [("r", 1, 1), ("r", 2, 2)])
        self.assertEqual(list(base.fitting(("r", "x", "y"))), [("r", 1, 1), ("r", 2, 1), ("r", 2, 2)])
        self.assertEqual(list(base.fitting(("r", "x", 1))), [("r", 1, 1), ("r", 2, 1)])
        self.assertEqual(list(base.fitting(("r", 2, 1))), [("r", 2, 1)])
        self.assertEqual(list(base.fitting(("r",))), [("r",)])
        self.assertEqual(list(base.fitting(("u", "x"))), [])
        self.assertEqual(list(Database().fitting(("r", "x"))), [])
        for pattern in (("r", "x", 2), ("r", "x"), ("s", "x", "y"), ("r", "y", "y"), ("r", 3, "y")):
            self.assertEqual(list(base.fitting(pattern)), [row for row in base.rows if oracle.fits(pattern, row)])

    def test_fitting_is_a_generator(self):
        one, other = ROWS.fitting(("t", "x")), ROWS.fitting(("t", "x"))
        self.assertEqual(next(one), ("t", 1))
        self.assertEqual(next(other), ("t", 1))
        self.assertEqual(next(one), ("t", 2))
        self.assertRaises(StopIteration, next, one)
        self.assertEqual(list(other), [("t", 2)])
        self.assertEqual(list(other), [])
        self.check_lazy(ROWS.fitting, InvalidPattern, [("t", True)])
        self.check_lazy(ROWS.fitting, InvalidPattern, [None])

    def test_cut(self):
        base = Database(("a",), ("t", 1), ("t", 2), ("r", 1, 2), ("r", 1, 3), ("u", 1, 2, 1), ("u", 1, 2, 3))
        self.assertEqual(base.cut((1, 2)).rows, (("a",), ("r", 1, 2), ("t", 1), ("t", 2), ("u", 1, 2, 1)))
        self.assertEqual(base.cut((2, 1, 2, 9)), base.cut((1, 2)))
        self.assertEqual(base.cut(()).rows, (("a",),))
        self.assertEqual(base.cut((3,)).rows, (("a",),))
        self.assertEqual(base.cut((1, 2, 3)), base)

    def test_moved(self):
        base = Database(("a",), ("t", 1), ("r", 1, 2), ("u", 2, 3, 1))
        self.assertEqual(base.moved({}), base)
        self.assertEqual(base.moved({1: 2, 2: 1}).rows, (("a",), ("r", 2, 1), ("t", 2), ("u", 1, 3, 2)))
        self.assertEqual(base.moved({1: 2, 2: 3, 3: 1}).rows, (("a",), ("r", 2, 3), ("t", 2), ("u", 3, 1, 2)))
        self.assertEqual(base.moved({3: HUGE, 1: -HUGE}).rows,
                         (("a",), ("r", -HUGE, 2), ("t", -HUGE), ("u", 2, HUGE, -HUGE)))
        self.assertEqual(base.moved({9: 1, 8: 2, 7: 7}), base)
        self.assertEqual(base.moved({9: 1, 8: 1}), base)
        self.assertEqual(base.moved({1: 1}), base)
        self.assertEqual(Database(("t", 1)).moved({1: 2, 2: 2}).rows, (("t", 2),))

    def test_moves_that_make_integers_equal(self):
        base = Database(("t", 1), ("r", 2, 3))
        for numbers in ({1: 2}, {2: 3}, {3: 1}, {1: 9, 2: 9}, {1: 2, 2: 3}, {1: 2, 2: 3, 3: 3}, {1: 3, 9: 5}):
            with self.subTest(numbers=numbers):
                self.assert_error(InvalidOperation, base.moved, [numbers])
        self.assertEqual(base.rows, (("r", 2, 3), ("t", 1)))

    def test_a_dict_that_was_passed_can_change_later(self):
        numbers = {1: 5}
        moved = Database(("t", 1)).moved(numbers)
        numbers[1] = 6
        self.assertEqual(moved.rows, (("t", 5),))
        self.assertEqual(numbers, {1: 6})

    def test_operators(self):
        one, other = Database(("a",), ("t", 1), ("t", 2)), Database(("t", 2), ("t", 3))
        empty = Database()
        self.assertEqual((one | other).rows, (("a",), ("t", 1), ("t", 2), ("t", 3)))
        self.assertEqual((one & other).rows, (("t", 2),))
        self.assertEqual((one - other).rows, (("a",), ("t", 1)))
        self.assertEqual((other - one).rows, (("t", 3),))
        self.assertEqual((one ^ other).rows, (("a",), ("t", 1), ("t", 3)))
        self.assertEqual((one | one, one & one, one - one, one ^ one), (one, one, empty, empty))
        self.assertEqual((one | empty, one & empty, one - empty, one ^ empty), (one, empty, one, one))
        self.assertEqual((empty | one, empty & one, empty - one, empty ^ one), (one, empty, empty, one))
        self.assertEqual((one.rows, other.rows), ((("a",), ("t", 1), ("t", 2)), (("t", 2), ("t", 3))))
        for result in (one | other, one & other, one - other, one ^ other):
            self.assertIsInstance(result, Database)

    def test_operators_by_trial(self):
        rows = [("a",), ("t", 1), ("t", 2), ("r", 1, 2)]
        sets = [set(some) for some in oracle.subsets(rows)]
        for one in sets:
            for other in sets:
                left, right = Database(*one), Database(*other)
                self.assertEqual(set((left | right).rows), one | other)
                self.assertEqual(set((left & right).rows), one & other)
                self.assertEqual(set((left - right).rows), one - other)
                self.assertEqual(set((left ^ right).rows), one ^ other)
                self.assertIs(left.is_within(right), one <= other)
                self.assertIs(left == right, one == other)
                self.assertIs(left != right, one != other)

    def test_is_within(self):
        self.assertIs(Database(("t", 1)).is_within(ROWS), True)
        self.assertIs(ROWS.is_within(ROWS), True)
        self.assertIs(ROWS.is_within(Database(("t", 1))), False)
        self.assertIs(Database().is_within(Database()), True)
        for value in wrong_objects(Database):
            self.assertIs(Database().is_within(value), False)
            self.assertIs(ROWS.is_within(value), False)

    def test_contains(self):
        self.assertIs(("t", 1) in ROWS, True)
        self.assertIs(("t", 3) in ROWS, False)
        self.assertIs(("t", True) in ROWS, False)
        self.assertIs(("t", False) in Database(("t", 0)), False)
        self.assertIs(("t",) in ROWS, False)
        self.assertIs(("b",) in Database(("b",)), True)
        self.assertIs(("t", 1, 1) in ROWS, False)
        self.assertIs(["t", 1] in ROWS, False)
        self.assertIs(("t", "x") in ROWS, False)
        base = Database(("r", 0), ("r", 1, 2, 3), ("a",))
        for value in every_value():
            self.assertIs(value in base, looks_like_row(value) and value in base.rows)

    def test_length_truth_and_text(self):
        self.assertEqual([len(Database()), len(Database(("a",))), len(ROWS)], [0, 1, 3])
        self.assertEqual([bool(Database()), bool(Database(("a",)))], [False, True])
        self.assertEqual([str(Database()), str(Database(("a",))), str(ROWS)],
                         ["database of 0 rows", "database of 1 rows", "database of 3 rows"])

    def test_objects(self):
        self.check_object(ROWS, Database(("s", 2), ("t", 2), ("t", 1), ("t", 1)),
                          [Database(), Database(("t", 1)), ROWS.with_rows(("b",)), ROWS.rows, list(ROWS.rows)])
        self.check_object(Database(), Database(), [ROWS, (), [], {}, None, 0, False])
        self.check_sealed(ROWS, ("rows", "numbers", "tables"))

    def test_errors(self):
        wrongs = wrong_rows()
        self.check_errors(Database, (("t", 1), wrongs, InvalidRow), (("t", 1), wrongs, InvalidRow))
        self.check_errors(Database.of, ((), wrong_for(lambda value: type(value) is tuple), InvalidDatabase))
        self.check_errors(lambda row: Database.of((("t", 1), row)), (("t", 2), wrongs, InvalidRow))
        self.check_errors(ROWS.with_rows, (("t", 1), wrongs, InvalidRow), (("t", 1), wrongs, InvalidRow))
        self.check_errors(ROWS.without_rows, (("t", 1), wrongs, InvalidRow), (("t", 1), wrongs, InvalidRow))
        self.check_errors(lambda pattern: list(ROWS.fitting(pattern)), (("t", "x"), wrong_patterns(), InvalidPattern))
        self.check_errors(ROWS.cut, ((1,), wrong_for(looks_like_integers), InvalidOperation))
        self.check_errors(ROWS.moved, ({1: 3}, wrong_for(looks_like_exchange), InvalidOperation))
        self.assertEqual(ROWS.rows, (("s", 2), ("t", 1), ("t", 2)))

    def test_errors_of_the_operators(self):
        calls = (lambda other: ROWS | other, lambda other: ROWS & other,
                 lambda other: ROWS - other, lambda other: ROWS ^ other)
        for call in calls:
            self.check_errors(call, (Database(), wrong_objects(Database), InvalidOperation))
        self.assertEqual(ROWS.rows, (("s", 2), ("t", 1), ("t", 2)))


if __name__ == "__main__":
    unittest.main()
