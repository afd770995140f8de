"""[0.13] and stage 5 of the document: licences."""

import random
import unittest
from itertools import permutations

from firmrows.errors import InvalidLicence, InvalidOperation, InvalidPattern, InvalidRow
from firmrows.future.licences import Licence
from tests import oracle
from tests.chance import some_licence, some_row
from tests.samples import (
    GROWING, HUGE, ObjectTests, every_value, looks_like_pattern, wrong_for, wrong_patterns, wrong_rows,
)

IN_ORDER = (
    ("r",), ("r", -5), ("r", 2), ("r", "a"), ("r", -1, "a"), ("r", 2, 1), ("r", 2, 3), ("r", 2, "a"), ("r", "a", 0),
    ("r", "a", "a"), ("r", "a", "b"), ("r", 9, 9, 9), ("r", "a", 1, "a"), ("r", "a", 1, "b"), ("r", "a", "a", "a"),
    ("r", "a", "a", "b"), ("r", "a", "b", "a"), ("r", "a", "b", "b"), ("r", "a", "b", "c"), ("ra",), ("s",), ("s", 0),
)


def is_part(value):
    return type(value) is tuple and all(looks_like_pattern(pattern) for pattern in value)


class LicenceTests(ObjectTests):
    def test_parts(self):
        empty = Licence()
        self.assertEqual((empty.come, empty.go, empty.shut, empty.kept), ((), (), (), ()))
        licence = Licence(come="any", go=(("t", "x"),), shut=(("s", 1),), kept=(("b",),))
        self.assertEqual((licence.come, licence.go, licence.shut, licence.kept),
                         ("any", (("t", "a"),), (("s", 1),), (("b",),)))
        self.assertEqual(Licence(kept=(("b",),), shut=(("s", 1),), go=(("t", "x"),), come="any"), licence)
        self.assertEqual(Licence(go="any").go, "any")
        self.assertEqual(Licence(come=(("any",),)).come, (("any",),))

    def test_order_of_the_patterns(self):
        names = ({}, {"a": "z", "b": "y", "c": "x"}, {"a": "b", "b": "c", "c": "a"})
        source = random.Random(8)
        for table in names:
            renamed = [(pattern[0],) + tuple(table.get(term, term) for term in pattern[1:]) for pattern in IN_ORDER]
            for _ in range(30):
                patterns = renamed * 2
                source.shuffle(patterns)
                for part in ("come", "go", "shut", "kept"):
                    licence = Licence(**{part: tuple(patterns)})
                    self.assertEqual(getattr(licence, part), IN_ORDER)

    def test_equal_blanks_and_repeated_patterns(self):
        patterns = (("r", "x", "y"), ("r", "y", "x"), ("r", "q", "q"), ("t", 5), ("r", "b", "b"), ("t", 5))
        for order in permutations(patterns, 6):
            self.assertEqual(Licence(come=order).come, (("r", "a", "a"), ("r", "a", "b"), ("t", 5)))

    def test_numbers(self):
        self.assertEqual(Licence().numbers, ())
        self.assertEqual(GROWING.numbers, ())
        licence = Licence(come=(("r", 8, "x"),), go=(("t", -2),), shut=(("t", HUGE), ("t", 9)), kept=(("u", 1, 0, "x"),))
        self.assertEqual(licence.numbers, (-2, 0, 1, 8, 9, HUGE))
        self.assertEqual(Licence(come=(("t", 5),), go=(("r", 5, 5),), shut=(("t", 5),)).numbers, (5,))
        self.assertEqual(Licence(come="any", go="any", shut=(("t", 4),), kept=(("t", 3),)).numbers, (3, 4))

    def test_may_come_and_may_go(self):
        row = ("r", 1, 1)
        self.assertEqual([Licence().may_come(row), Licence().may_go(row)], [False, False])
        self.assertEqual([GROWING.may_come(row), GROWING.may_go(row)], [True, False])
        self.assertEqual([Licence(go="any").may_come(row), Licence(go="any").may_go(row)], [False, True])
        diagonal = (("r", "x", "x"),)
        for licence, expected in (
                (Licence(come=diagonal), [True, False]), (Licence(go=diagonal), [False, True]),
                (Licence(come="any", shut=diagonal), [False, False]), (Licence(come="any", kept=diagonal), [True, False]),
                (Licence(go="any", kept=diagonal), [False, False]), (Licence(go="any", shut=diagonal), [False, True]),
                (Licence(come=diagonal, go=diagonal, shut=(row,)), [False, True]),
                (Licence(come=(("r", 1, "x"), ("t",)), go=(("r", 2, "x"),)), [True, False])):
            self.assertEqual([licence.may_come(row), licence.may_go(row)], expected)
        self.assertIs(Licence(come=diagonal).may_come(("r", 1, 2)), False)
        self.assertIs(GROWING.sealed(("s", "x")).may_come(("s", 1)), False)
        self.assertIs(GROWING.sealed(("s", "x")).may_come(("s", 1, 1)), True)

    def test_by_trial(self):
        source = random.Random(9)
        seen = []
        for _ in range(500):
            licence = some_licence(source)
            for _ in range(8):
                row = some_row(source, 3)
                come, go = oracle.may(row, licence.come, licence.shut), oracle.may(row, licence.go, licence.kept)
                seen.append((come, go))
                self.assertIs(licence.may_come(row), come)
                self.assertIs(licence.may_go(row), go)
        self.assertEqual(len(set(seen)), 4)

    def test_sealed(self):
        licence = Licence(come="any", go=(("t", "x"),), shut=(("s", 1),))
        self.assertEqual(licence.sealed(), licence)
        both = licence.sealed(("s", "x"), ("b",))
        self.assertEqual((both.come, both.go), (licence.come, licence.go))
        self.assertEqual((both.shut, both.kept), ((("b",), ("s", 1), ("s", "a")), (("b",), ("s", "a"))))
        one = licence.sealed(("s", "x"), go=False)
        self.assertEqual((one.shut, one.kept), ((("s", 1), ("s", "a")), ()))
        other = licence.sealed(("s", "x"), come=False)
        self.assertEqual((other.shut, other.kept), ((("s", 1),), (("s", "a"),)))
        self.assertEqual(licence.sealed(("s", "x"), come=False, go=False), licence)
        self.assertEqual(licence.sealed(("s", "x"), come=True, go=True), licence.sealed(("s", "z")))
        self.assertEqual(licence.sealed(("s", 1), go=False), licence)
        self.assertEqual((licence.shut, licence.kept), ((("s", 1),), ()))
        twice = both.sealed(("b", 1))
        self.assertEqual((twice.shut, twice.kept), ((("b",), ("b", 1), ("s", 1), ("s", "a")), (("b",), ("b", 1), ("s", "a"))))

    def test_truth_and_text(self):
        part = (("t", "x"),)
        self.assertEqual([bool(Licence()), bool(Licence(shut=part, kept=part)), bool(Licence(come=part)),
                          bool(Licence(go=part)), bool(GROWING), bool(Licence(go="any")),
                          bool(Licence(come=part, go=part, shut=part, kept=part))],
                         [False, False, True, True, True, True, True])
        self.assertEqual(str(Licence(come="any", go=(("t", 1), ("t", 2), ("t", 1)), shut=part)),
                         "licence: any come, 2 go, 1 shut, 0 kept")
        self.assertEqual(str(Licence()), "licence: 0 come, 0 go, 0 shut, 0 kept")
        self.assertEqual(str(Licence(go="any", kept=part + (("t", "y"), ("s",)))), "licence: 0 come, any go, 0 shut, 2 kept")

    def test_objects(self):
        part = (("r", "y", "x"), ("t", 1))
        licence = Licence(come=part, go="any", shut=part, kept=part)
        same = (("t", 1), ("r", "a", "b"), ("r", "p", "q"))
        self.check_object(licence, Licence(come=same, go="any", shut=same, kept=same), [
            Licence(), Licence(come=part), Licence(come="any", go="any", shut=part, kept=part),
            Licence(come=part, go=part, shut=part, kept=part), Licence(come=part, go="any", kept=part),
            Licence(come=part, go="any", shut=part), Licence(go="any", shut=part, kept=part),
            Licence(come=part + (("r", "x", "x"),), go="any", shut=part, kept=part), part, "any"])
        self.check_object(Licence(), Licence(come=(), go=()), [GROWING, (), (((),) * 4), None, False])
        self.check_sealed(licence, ("come", "go", "shut", "kept", "numbers"))

    def test_errors_of_the_parts(self):
        near = [("any",), (("r", "x"), "any"), ("r", "x"), (("r", True),), (("r", 1, 2, 3, 4),), [("r", "x")], "Any", "an", "none"]
        wide = wrong_for(lambda value: is_part(value) or value == "any") + near
        narrow = wrong_for(is_part) + near + ["any"]
        self.check_errors(lambda come, go, shut, kept: Licence(come=come, go=go, shut=shut, kept=kept),
                          ("any", wide, InvalidLicence), ("any", wide, InvalidLicence),
                          ((), narrow, InvalidLicence), ((), narrow, InvalidLicence))

    def test_errors(self):
        self.check_errors(GROWING.may_come, (("t", 1), wrong_rows(), InvalidRow))
        self.check_errors(GROWING.may_go, (("t", 1), wrong_rows(), InvalidRow))
        wrongs = wrong_for(lambda value: value is True or value is False)
        self.check_errors(lambda one, other, come, go: GROWING.sealed(one, other, come=come, go=go),
                          (("t", "x"), wrong_patterns(), InvalidPattern), (("t", "x"), wrong_patterns(), InvalidPattern),
                          (True, wrongs, InvalidOperation), (False, wrongs, InvalidOperation))
        self.assert_error(InvalidOperation, lambda: GROWING.sealed(come=1), [])
        self.assert_error(InvalidOperation, lambda: GROWING.sealed(go=None), [])
        self.assertEqual(GROWING, Licence(come="any"))

    def test_comparison_accepts_every_value(self):
        for value in every_value():
            self.assertIs(Licence(come=(("t", 77),)) == value, False)


if __name__ == "__main__":
    unittest.main()
