"""[0.16] and stage 6 of the document: case trees."""

import random
import unittest
from itertools import product

from firmrows.ask.questions import Question, make_rule
from firmrows.base.databases import Database
from firmrows.errors import InvalidAnswer, InvalidDatabase, InvalidLicence, InvalidOperation, InvalidQuestion
from firmrows.future.futures import futures
from firmrows.future.licences import Licence
from firmrows.papers.trees import asked, depth, is_case_tree, is_tree, leaf_at
from tests import oracle
from tests.chance import TABLES, some_database, some_licence, some_question
from tests.samples import (
    ALONE, EITHER, GROWING, HUGE, ROWS, SPLIT, ErrorTests, every_value, is_plain_integer, looks_like_integers,
    looks_like_row, nested, wrong_answers, wrong_for, wrong_objects,
)

LEAF = ("match", 0, (1,))
TREE = ("ask", ("s", 1), ("match", 1, (1,)), LEAF)
BOTH = Licence(come="any", go="any")
ONE = Database(("t", 1))


def looks_like_tree(value, most=20):
    if type(value) is not tuple:
        return False
    if len(value) == 3 and value[0] == "match":
        return is_plain_integer(value[1]) and value[1] >= 0 and looks_like_integers(value[2])
    return (len(value) == 4 and value[0] == "ask" and looks_like_row(value[1]) and most > 0
            and looks_like_tree(value[2], most - 1) and looks_like_tree(value[3], most - 1))


def chain(many, side, leaf=LEAF, end=LEAF):
    """A tree of this depth, whose inner nodes all stand on one side."""
    tree = end
    for number in range(many):
        row = ("b", number)
        tree = ("ask", row, tree, leaf) if side == "yes" else ("ask", row, leaf, tree)
    return tree


NEAR_TREES = [
    ("match", -1, ()), ("match", True, ()), ("match", False, ()), ("match", 0, [1]), ("match", 0, (True,)), ("match", 0, 1),
    ("match", 0, ((1,),)), ("match", 0, None), ("match", 0), ("match", 0, (), ()), ("match", None, ()), ("match", "0", ()),
    ("match", 0, ("x",)), ["match", 0, ()], ("Match", 0, ()), ("match", 0, {}), ("match", ("t", 1), LEAF, LEAF), (),
    ("ask", ("s", "x"), LEAF, LEAF), ("ask", ("s", True), LEAF, LEAF), ("ask", ["s", 1], LEAF, LEAF), ("ask", "s", LEAF, LEAF),
    ("ask", ("s", 1), LEAF), ("ask", ("s", 1), LEAF, LEAF, LEAF), ("ask", ("s", 1), LEAF, None), ("ask", ("s", 1), None, LEAF),
    ("ask", ("s", 1), LEAF, list(LEAF)), ["ask", ("s", 1), LEAF, LEAF], ("ask", 0, (1,)), ("ask", ("s", 1), LEAF, ()),
    ("ask", ("s", 1), ("ask", ("s", 2), LEAF, ("match", True, (1,))), LEAF),
    ("ask", ("s", 1), LEAF, ("ask", ("s", True), LEAF, LEAF)), ("ask", ("s", 1), LEAF, ("match", 0, (True,))),
    ("ask", ("s", 1), ("match", 0, (1, False)), LEAF), (None, 0, ()), (ROWS, 0, ()), (["match"], 0, ()), (ROWS, ("s", 1), LEAF, LEAF),
    chain(21, "yes"), chain(21, "no"), chain(100, "yes"), chain(100, "no"), chain(20, "no", end=("match", -1, ())),
    chain(20, "yes", end=("match", 0, (1, None))), chain(3, "yes", chain(18, "no")),
]


def wrong_trees():
    return wrong_for(looks_like_tree) + NEAR_TREES


class FormTests(ErrorTests):
    def test_is_tree(self):
        for value in every_value():
            self.assertIs(is_tree(value), looks_like_tree(value))
        for value in NEAR_TREES:
            with self.subTest(value=str(value)[:80]):
                self.assertIs(is_tree(value), False)
        for value in (LEAF, TREE, ("match", HUGE, ()), ("match", 0, (HUGE, -HUGE, 0, 1, 2, 3, 4)), chain(20, "yes"),
                      chain(20, "no"), chain(10, "yes", chain(10, "no")), ("ask", ("b",), TREE, ("ask", ("b",), LEAF, TREE))):
            with self.subTest(value=str(value)[:80]):
                self.assertIs(is_tree(value), True)

    def test_one_wrong_part(self):
        for wrong in every_value():
            for value in ((wrong, 0, ()), ("match", wrong, ()), ("match", 0, wrong), ("match", 0, (wrong,)),
                          (wrong, ("s", 1), LEAF, LEAF), ("ask", wrong, LEAF, LEAF), ("ask", ("s", 1), wrong, LEAF),
                          ("ask", ("s", 1), LEAF, wrong), ("ask", ("s", 1), LEAF, ("ask", wrong, LEAF, LEAF))):
                self.assertIs(is_tree(value), looks_like_tree(value))

    def test_deep_values(self):
        for kind in (list, tuple, dict):
            self.assertIs(is_tree(nested(kind, 100)), False)
            self.assertIs(is_tree(("ask", ("s", 1), LEAF, nested(kind, 98))), False)

    def test_depth(self):
        self.assertEqual([depth(LEAF), depth(TREE), depth(("ask", ("b",), LEAF, TREE)), depth(("ask", ("b",), TREE, LEAF))],
                         [0, 1, 2, 2])
        self.assertEqual([depth(chain(20, "yes")), depth(chain(20, "no")), depth(chain(4, "yes", chain(9, "no")))], [20, 20, 13])
        self.check_errors(depth, (TREE, wrong_trees(), InvalidOperation))

    def test_asked(self):
        self.assertEqual(asked(LEAF), ())
        self.assertEqual(asked(TREE), (("s", 1),))
        self.assertEqual(asked(("ask", ("t", 1), ("ask", ("b",), LEAF, TREE), ("ask", ("t", 1), TREE, ("ask", ("a", 9), LEAF, LEAF)))),
                         (("a", 9), ("b",), ("s", 1), ("t", 1)))
        self.assertEqual(asked(chain(20, "no")), tuple(("b", number) for number in range(20)))
        self.check_errors(asked, (TREE, wrong_trees(), InvalidOperation))

    def test_leaf_at(self):
        self.assertEqual(leaf_at(TREE, ROWS), LEAF)
        self.assertEqual(leaf_at(TREE, ROWS.with_rows(("s", 1))), ("match", 1, (1,)))
        self.assertEqual(leaf_at(("match", 7, ()), ROWS), ("match", 7, ()))
        leaves = [("match", number, (number,)) for number in range(4)]
        tree = ("ask", ("a",), ("ask", ("b",), leaves[0], leaves[1]), ("ask", ("b",), leaves[2], leaves[3]))
        self.assertEqual([leaf_at(tree, Database(*rows)) for rows in ((("a",), ("b",)), (("a",),), (("b",),), ())], leaves)
        twice = ("ask", ("a",), ("ask", ("a",), leaves[0], leaves[1]), ("ask", ("a",), leaves[2], leaves[3]))
        self.assertEqual([leaf_at(twice, Database(("a",))), leaf_at(twice, Database())], [leaves[0], leaves[3]])
        end = ("match", 5, ())
        self.assertEqual(leaf_at(chain(20, "no", end=end), Database()), end)
        self.assertEqual(leaf_at(chain(20, "yes", end=end), Database(*[("b", number) for number in range(20)])), end)
        self.check_errors(leaf_at, (TREE, wrong_trees(), InvalidOperation), (ROWS, wrong_objects(Database), InvalidDatabase))


class CaseTreeTests(ErrorTests):
    def check(self, expected, question, base, licence, answer, tree):
        with self.subTest(tree=str(tree)[:100]):
            self.assertIs(is_case_tree(question, base, licence, answer, tree), expected)

    def test_split(self):
        self.check(True, SPLIT, ROWS, GROWING, (1,), TREE)
        self.check(True, SPLIT, ROWS, GROWING, (2,), ("match", 1, (2,)))
        self.check(False, SPLIT, ROWS, GROWING, (1,), LEAF)
        self.check(False, SPLIT, ROWS, GROWING, (1,), ("match", 1, (1,)))
        self.check(False, SPLIT, ROWS, GROWING, (1,), ("ask", ("s", 1), LEAF, ("match", 1, (1,))))
        self.check(False, SPLIT, ROWS, GROWING, (1,), ("ask", ("s", 1), LEAF, LEAF))
        self.check(False, SPLIT, ROWS, GROWING, (2,), ("match", 0, (2,)))
        self.check(False, SPLIT, ROWS, GROWING, (2,), TREE)
        self.check(False, SPLIT, ROWS, BOTH, (1,), TREE)
        self.check(False, SPLIT, ROWS, GROWING, (3,), ("match", 0, (3,)))

    def test_rows_asked_in_vain_twice_or_though_they_cannot_change(self):
        for row in (("b",), ("s", 2), ("t", 1), ("t", 9), ("s", 1)):
            self.check(True, SPLIT, ROWS, GROWING, (1,), ("ask", row, TREE, TREE))
        again = ("ask", ("s", 1), ("ask", ("s", 1), ("match", 1, (1,)), ("match", 9, ())), TREE)
        self.check(True, SPLIT, ROWS, GROWING, (1,), again)
        self.check(True, SPLIT, ROWS, GROWING, (1,), ("ask", ("t", 1), TREE, ("match", 50, (1, 2, 3))))
        self.check(False, SPLIT, ROWS, GROWING, (1,), ("ask", ("t", 1), ("match", 50, ()), TREE))
        self.check(True, SPLIT, ROWS, GROWING.sealed(("b",)), (1,), ("ask", ("b",), ("match", 9, ()), TREE))
        self.check(False, SPLIT, ROWS, GROWING.sealed(("b",)), (1,), ("ask", ("b",), TREE, ("match", 9, ())))
        self.check(False, SPLIT, ROWS, GROWING, (1,), ("ask", ("b",), TREE, ("match", 9, ())))
        self.check(False, SPLIT, ROWS, GROWING, (1,), ("ask", ("b",), ("match", 9, ()), TREE))

    def test_an_asked_row_is_known_only_on_its_side(self):
        rule = Question(make_rule((), ("a",)), make_rule((), barred=(("a",),)))
        yes, no = ("match", 0, ()), ("match", 1, ())
        self.check(True, rule, Database(), GROWING, (), ("ask", ("a",), yes, no))
        self.check(False, rule, Database(), GROWING, (), ("ask", ("a",), no, yes))
        self.check(False, rule, Database(), GROWING, (), ("ask", ("b",), ("ask", ("a",), yes, no), yes))
        self.check(False, rule, Database(), GROWING, (), ("ask", ("b",), ("ask", ("a",), yes, no), no))
        self.check(True, rule, Database(), Licence(), (), no)
        self.check(False, rule, Database(), Licence(), (), yes)
        self.check(True, rule, Database(("a",)), GROWING, (), yes)
        self.check(False, rule, Database(("a",)), BOTH, (), yes)
        self.check(True, rule, Database(("a",)), BOTH.sealed(("a",)), (), yes)

    def test_licences_that_seal(self):
        for licence, expected in (
                (GROWING, False), (GROWING.sealed(("s", "x")), True), (GROWING.sealed(("s", 1)), True),
                (GROWING.sealed(("s", 2)), False), (GROWING.sealed(("s", "x"), come=False), False),
                (Licence(come=(("t", "x"),)), True), (Licence(come=(("s", "x"),)), False), (Licence(come=(("s", 2),)), True),
                (Licence(go="any"), False), (Licence(go="any", kept=(("t", 1),)), True), (Licence(go=(("t", 2),)), True),
                (Licence(go=(("t", "x"),)), False), (Licence(come="any", shut=(("s", "x"),), go="any", kept=(("t", "x"),)), True)):
            self.check(expected, ALONE, ONE, licence, (1,), LEAF)

    def test_leaves(self):
        rule = make_rule(("x", 5), ("r", "x", "y"), ("t", "y"), unlike=(("x", "y"), ("y", 7)))
        question, base = Question(rule), Database(("r", 1, 2), ("t", 2), ("r", 1, 1), ("t", 1), ("r", 1, 7), ("t", 7))
        self.check(True, question, base, GROWING, (1, 5), ("match", 0, (1, 2)))
        for leaf in (("match", 0, (1, 1)), ("match", 0, (1, 7)), ("match", 0, (2, 1)), ("match", 0, (1,)), ("match", 0, ()),
                     ("match", 0, (1, 2, 3)), ("match", 1, (1, 2)), ("match", HUGE, (1, 2)), ("match", 0, (1, 3))):
            self.check(False, question, base, GROWING, (1, 5), leaf)
        self.check(False, question, base, GROWING, (2, 5), ("match", 0, (1, 2)))
        self.check(False, question, base, GROWING, (1, 4), ("match", 0, (1, 2)))
        self.check(False, Question(width=2), base, GROWING, (1, 5), ("match", 0, (1, 2)))
        self.check(False, Question(make_rule((), unlike=((3, 3),))), base, Licence(), (), ("match", 0, ()))
        self.check(True, Question(make_rule((), unlike=((3, 4),))), base, BOTH, (), ("match", 0, ()))
        self.check(True, Question(make_rule((HUGE,))), base, BOTH, (HUGE,), ("match", 0, ()))

    def test_both(self):
        yes, no = ("match", 1, ()), ("match", 0, ())
        self.check(False, EITHER, Database(), GROWING, (), ("ask", ("a",), yes, no))
        self.check(True, EITHER, Database(), GROWING.sealed(("b",)), (), yes)
        self.check(True, EITHER, Database(), GROWING.sealed(("b",)), (), ("ask", ("a",), yes, no))
        self.check(False, EITHER, Database(("b",)), GROWING, (), ("ask", ("a",), yes, no))
        three = EITHER.with_rule(make_rule((), ("a",), ("b",)))
        tree = ("ask", ("a",), ("ask", ("b",), ("match", 2, ()), yes), no)
        self.check(True, three, Database(), BOTH, (), tree)
        self.check(True, three, Database(("a",), ("b",)), BOTH, (), tree)
        self.check(False, three, Database(), BOTH, (), ("ask", ("a",), ("ask", ("b",), yes, ("match", 2, ())), no))

    def test_rows_stay_known_all_the_way_down(self):
        rules = [make_rule((), barred=(("a",), ("b",), ("c",))), make_rule((), ("a",), ("b",), ("c",))]
        question = Question(*rules, make_rule((), ("a",)), make_rule((), ("b",)), make_rule((), ("c",)))
        leaves = [("match", index, ()) for index in range(5)]
        away = ("ask", ("a",), leaves[2], ("ask", ("b",), leaves[3], ("ask", ("c",), leaves[4], leaves[0])))
        self.check(True, question, Database(), BOTH, (), away)
        there = ("ask", ("a",), ("ask", ("b",), ("ask", ("c",), leaves[1], leaves[2]), leaves[2]), away)
        self.check(True, question, Database(("b",)), BOTH, (), there)
        self.check(False, question, Database(), BOTH, (), ("ask", ("a",), leaves[2], ("ask", ("b",), leaves[3], leaves[0])))

    def test_depth_of_twenty_and_twenty_one(self):
        question = Question(make_rule((1,)))
        leaf = ("match", 0, ())
        for side in ("yes", "no"):
            self.check(True, question, ROWS, BOTH, (1,), chain(20, side, leaf, leaf))
            self.check(False, question, ROWS, BOTH, (1,), chain(20, side, leaf, ("match", 1, ())))
            self.check(False, question, ROWS, BOTH, (1,), chain(20, side, leaf, ("match", 0, (1,))))
            self.check(False, question, ROWS, BOTH, (1,), chain(21, side, leaf, leaf))
            self.check(side == "no", question, ROWS, Licence(), (1,), chain(20, side, ("match", 1, ()), leaf))

    def test_great_databases(self):
        many = Database(*[("t", number) for number in range(100)])
        self.check(True, SPLIT, many, GROWING, (1,), TREE)
        self.check(False, ALONE, many, GROWING, (1,), LEAF)

    def test_by_trial(self):
        source = random.Random(11)
        told = []
        for _ in range(3000):
            question, base, licence = some_question(source, 2), some_database(source, 2), some_licence(source, 2)
            answer = tuple(source.randrange(2) for _ in range(question.width))
            tree = self.some_tree(source, question, base, licence, answer, source.randrange(4), set(), set())
            expected = oracle.is_right(tree, question.rules, base.rows, licence, answer)
            told.append((expected, depth(tree) > 0))
            self.assertIs(is_case_tree(question, base, licence, answer, tree), expected,
                          (question.rules, base.rows, str(licence), answer, tree))
        for kind in product((True, False), (True, False)):
            self.assertGreater(told.count(kind), 30, kind)

    def some_tree(self, source, question, base, licence, answer, most, there, away):
        """A tree whose leaves are mostly such as are right there."""
        rows = [put for rule in question.rules for pattern in rule[1] + rule[2]
                for put in sorted(oracle.rows_fitting(pattern, (0, 1)))] + [("b",)]
        rows = [row for row in rows if (row[0], len(row) - 1) in TABLES or row == ("b",)]
        if most > 0 and source.random() < 0.9:
            row = source.choice(rows)
            return ("ask", row,
                    self.some_tree(source, question, base, licence, answer, most - 1, there | {row}, away),
                    self.some_tree(source, question, base, licence, answer, most - 1, there, away | {row}))
        leaves = [("match", index, values) for index, rule in enumerate(question.rules)
                  for values in product((0, 1), repeat=len(oracle.variables(rule)))]
        future = (set(base.rows) | there) - away
        right = [leaf for leaf in leaves if oracle.is_right_leaf(
            leaf, list(there | away), question.rules, set(base.rows), future, licence, answer)]
        if right and source.random() < 0.95:
            return source.choice(right)
        return source.choice(leaves + [("match", 9, ()), ("match", 0, (0,) * 5)])

    def test_a_right_tree_shows_the_answer_in_every_future(self):
        able = (("s", 1), ("t", 1), ("b",), ("s", 2), ("t", 2))
        self.assertIs(is_case_tree(SPLIT, ROWS, GROWING, (1,), TREE), True)
        for later in futures(ROWS, GROWING, able):
            self.assertIn((1,), SPLIT(later))
            index, integers = leaf_at(TREE, later)[1:]
            self.assertTrue(oracle.holds(SPLIT.rules[index], {"x": integers[0]}, set(later.rows)))

    def test_every_value(self):
        for value in every_value() + NEAR_TREES:
            self.check(False, Question(make_rule((7,), ("t", 70))), ROWS, GROWING, (7,), value)
            expected = type(value) is tuple and value == ("match", 0, (1,)) and type(value[2][0]) is int
            self.check(expected, ALONE, ONE, Licence(), (1,), value)

    def test_errors(self):
        self.check_errors(lambda *four: is_case_tree(*four, TREE),
                          (SPLIT, wrong_objects(Question), InvalidQuestion), (ROWS, wrong_objects(Database), InvalidDatabase),
                          (GROWING, wrong_objects(Licence), InvalidLicence), ((1,), wrong_answers(1), InvalidAnswer))
        for value in every_value():
            self.assert_error(InvalidAnswer, is_case_tree, [SPLIT, ROWS, GROWING, (1, 2), value])
            self.assert_error(InvalidQuestion, is_case_tree, [None, ROWS, GROWING, (1,), value])


if __name__ == "__main__":
    unittest.main()
