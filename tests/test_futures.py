"""[0.14] and stage 5 of the document: what can change, and futures."""

import random
import unittest

from firmrows.base.databases import Database
from firmrows.errors import InvalidDatabase, InvalidLicence, InvalidOperation, InvalidRow, NotLet, TooMany
from firmrows.future.futures import barrier, can_change, changed, futures, is_future
from firmrows.future.licences import Licence
from tests import oracle
from tests.chance import some_database, some_licence, some_row
from tests.samples import GROWING, ROWS, ErrorTests, every_value, wrong_for, wrong_objects, wrong_rows

MOVING = Licence(come=(("b",), ("s", "x"), ("t", 3)), go=(("t", "x"),), shut=(("s", 9),), kept=(("t", 2),))
THIRTEEN = tuple(("b", number) for number in range(13))
DATABASES = (ROWS, wrong_objects(Database), InvalidDatabase)
LICENCES = (GROWING, wrong_objects(Licence), InvalidLicence)
NEW_ROW = (("b", 1), wrong_rows(), InvalidRow)


class FutureTests(ErrorTests):
    def test_can_change(self):
        for row, expected in (
                (("t", 1), True), (("t", 2), False), (("s", 2), False), (("s", 1), True), (("s", 9), False),
                (("b",), True), (("b", 1), False), (("t", 3), True), (("t", 4), False)):
            with self.subTest(row=row):
                self.assertIs(can_change(ROWS, MOVING, row), expected)
        self.assertIs(can_change(ROWS, GROWING, ("t", 1)), False)
        self.assertIs(can_change(ROWS, GROWING, ("t", 7)), True)
        self.assertIs(can_change(ROWS, Licence(go="any"), ("t", 1)), True)
        self.assertIs(can_change(ROWS, Licence(go="any"), ("t", 7)), False)

    def test_by_trial(self):
        source = random.Random(10)
        for _ in range(400):
            base, licence = some_database(source), some_licence(source)
            rows = tuple(some_row(source, 3) for _ in range(source.randrange(6)))
            able = {row for row in rows if oracle.can_change(set(base.rows), licence, row)}
            for row in rows:
                self.assertIs(can_change(base, licence, row), row in able)
            later = base ^ Database(*rows)
            stuck = sorted(set(rows) - able)
            self.assertIs(is_future(base, licence, later), not stuck)
            self.assertEqual(barrier(base, licence, later), stuck[0] if stuck else None)
            if stuck:
                with self.assertRaises(NotLet) as caught:
                    changed(base, licence, *rows)
                self.assertEqual(caught.exception.row, [row for row in rows if row not in able][0])
            else:
                self.assertEqual(changed(base, licence, *rows), later)
            expected = [base ^ Database(*some) for some in oracle.subsets(able)]
            self.assertEqual(list(futures(base, licence, rows)), expected)

    def test_changed(self):
        self.assertEqual(changed(ROWS, GROWING), ROWS)
        self.assertEqual(changed(ROWS, MOVING, ("b",), ("t", 1), ("s", 5)).rows, (("b",), ("s", 2), ("s", 5), ("t", 2)))
        self.assertEqual(changed(ROWS, MOVING, ("b",), ("b",), ("t", 1), ("t", 1)), changed(ROWS, MOVING, ("t", 1), ("b",)))
        with self.assertRaises(NotLet) as caught:
            changed(ROWS, MOVING, ("b",), ("t", 2), ("s", 9), ("a",))
        self.assertEqual(caught.exception.row, ("t", 2))
        with self.assertRaises(NotLet) as caught:
            changed(ROWS, MOVING, ("s", 9), ("t", 2))
        self.assertEqual(caught.exception.row, ("s", 9))
        self.assertEqual(ROWS.rows, (("s", 2), ("t", 1), ("t", 2)))

    def test_is_future(self):
        self.assertIs(is_future(ROWS, Licence(), ROWS), True)
        self.assertIs(is_future(ROWS, GROWING, ROWS.with_rows(("b",), ("a",))), True)
        self.assertIs(is_future(ROWS, GROWING, ROWS - Database(("s", 2))), False)
        self.assertIs(is_future(ROWS, Licence(go="any"), ROWS - Database(("s", 2))), True)
        self.assertIs(is_future(ROWS, Licence(go="any"), ROWS.with_rows(("b",))), False)
        self.assertIs(is_future(ROWS, Licence(come="any", go="any"), Database()), True)
        self.assertIs(is_future(ROWS, MOVING, Database(("b",), ("s", 2), ("t", 2), ("t", 3))), True)
        self.assertIs(is_future(ROWS, MOVING, Database(("b",), ("s", 2), ("t", 3))), False)
        more = Database(*[("s", number) for number in range(100)])
        self.assertIs(is_future(more, GROWING, more.with_rows(("a",))), True)
        for value in wrong_objects(Database):
            self.assertIs(is_future(ROWS, Licence(come="any", go="any"), value), False)

    def test_barrier(self):
        self.assertEqual(barrier(ROWS, GROWING, Database(("t", 1))), ("s", 2))
        self.assertIs(barrier(ROWS, GROWING, ROWS), None)
        self.assertIs(barrier(ROWS, GROWING, ROWS.with_rows(("a",), ("z",))), None)
        self.assertEqual(barrier(ROWS, MOVING, Database(("t", 1))), ("s", 2))
        self.assertEqual(barrier(ROWS, MOVING, Database(("s", 2), ("t", 4))), ("t", 2))
        self.assertEqual(barrier(ROWS, MOVING, Database(("a",), ("b",), ("c",))), ("a",))
        self.assertEqual(barrier(ROWS, Licence(), ROWS.with_rows(("s", 1), ("s",), ("s", 2, 0))), ("s",))
        self.assertEqual(barrier(ROWS, Licence(), ROWS.with_rows(("t", 1, 0), ("t", 3))), ("t", 1, 0))

    def test_order_of_the_futures(self):
        rows = (("s", 2), ("b",), ("a",), ("b",))
        found = list(futures(ROWS, GROWING, rows))
        self.assertEqual(found, [ROWS.with_rows(*some) for some in ((), (("a",),), (("b",),), (("a",), ("b",)))])
        found = [later ^ ROWS for later in futures(ROWS, Licence(come="any", go="any"), (("t", 2), ("s", 2), ("t", 0)))]
        self.assertEqual([later.rows for later in found], [
            (), (("s", 2),), (("t", 0),), (("t", 2),), (("s", 2), ("t", 0)), (("s", 2), ("t", 2)), (("t", 0), ("t", 2)),
            (("s", 2), ("t", 0), ("t", 2))])
        self.assertEqual(list(futures(ROWS, GROWING, ())), [ROWS])
        self.assertEqual(list(futures(ROWS, Licence(), rows)), [ROWS])

    def test_twelve_and_thirteen_rows(self):
        found = list(futures(Database(), GROWING, THIRTEEN[:12]))
        self.assertEqual(len(found), 4096)
        self.assertEqual([later.rows for later in found], list(oracle.subsets(THIRTEEN[:12])))
        twelve = THIRTEEN[:12] * 2 + ROWS.rows
        self.assertEqual(sum(1 for _ in futures(ROWS, GROWING, twelve)), 4096)
        sealed = GROWING.sealed(("b", 7))
        self.assertEqual(sum(1 for _ in futures(ROWS, sealed, THIRTEEN)), 4096)
        generator = futures(ROWS, GROWING, THIRTEEN)
        with self.assertRaises(TooMany) as caught:
            next(generator)
        self.assertEqual(caught.exception.limit, 12)

    def test_taken_in_part_twice_and_side_by_side(self):
        one, other = futures(Database(), GROWING, THIRTEEN[:3]), futures(Database(), GROWING, THIRTEEN[:3])
        expected = [Database(*some) for some in oracle.subsets(THIRTEEN[:3])]
        self.assertEqual([next(one), next(one), next(other), next(one), next(other)],
                         [expected[0], expected[1], expected[0], expected[2], expected[1]])
        self.assertEqual(list(one), expected[3:])
        self.assertEqual(list(one), [])
        self.assertEqual(list(other), expected[2:])

    def test_errors(self):
        self.check_errors(can_change, DATABASES, LICENCES, NEW_ROW)
        self.check_errors(changed, DATABASES, LICENCES, NEW_ROW, (("b", 2), wrong_rows(), InvalidRow))
        self.check_errors(lambda *both: is_future(*both, ROWS), DATABASES, LICENCES)
        self.check_errors(barrier, DATABASES, LICENCES, (ROWS, wrong_objects(Database), InvalidDatabase))

    def test_changed_checks_all_rows_first(self):
        for wrong in wrong_rows():
            self.assert_error(InvalidRow, changed, [ROWS, Licence(), ("t", 1), wrong])

    def test_errors_of_futures(self):
        no_tuples = wrong_for(lambda value: type(value) is tuple)
        self.check_errors(lambda *three: list(futures(*three)), DATABASES, LICENCES,
                          ((("b", 1),), no_tuples, InvalidOperation))
        self.check_errors(lambda base, licence, one, other: list(futures(base, licence, (one, other))),
                          DATABASES, LICENCES, NEW_ROW, NEW_ROW)
        for wrong in (None, ("b", True), ["b"], 1):
            self.check_lazy(futures, InvalidRow, [ROWS, GROWING, THIRTEEN + (wrong,)])
        self.check_lazy(futures, InvalidOperation, [ROWS, GROWING, list(THIRTEEN)])
        self.check_lazy(futures, InvalidDatabase, [None, None, None])
        self.check_lazy(futures, InvalidLicence, [ROWS, "any", THIRTEEN])
        self.check_lazy(futures, TooMany, [ROWS, GROWING, THIRTEEN])

    def test_is_future_returns_a_boolean_for_every_value(self):
        for value in every_value():
            self.assertIn(is_future(ROWS, GROWING, value), (True, False))


if __name__ == "__main__":
    unittest.main()
