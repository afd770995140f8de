"""[0.17], [8.1] and stage 8 of the document: bar trees."""

import random
import unittest

from firmrows.ask.questions import Question, make_rule
from firmrows.base.databases import Database
from firmrows.errors import InvalidNumber, InvalidOperation
from firmrows.future.licences import Licence
from firmrows.papers.bars import is_bar_tree, is_bars, reason_at
from firmrows.papers.out import out_paper
from tests import oracle
from tests.chance import bar_leaves_of, some_bar_case, some_case, some_other_bars
from tests.samples import (
    ALONE, CASE, EITHER, GROWING, HUGE, ROWS, SPLIT, ErrorTests, every_value, is_plain_integer, looks_like_name,
    looks_like_term, nested, wrong_for, wrong_indices,
)

NONE = ("none",)
PARTS = {"pair": 1, "stays": 1, "both": 2, "never": 1, "none": 0}


def looks_like_bars(value, most=20):
    if type(value) is not tuple or not value or type(value[0]) is not str:
        return False
    if value[0] != "is":
        return (value[0] in PARTS and len(value) == 1 + PARTS[value[0]]
                and all(is_plain_integer(part) and part >= 0 for part in value[1:]))
    if len(value) != 4 or not looks_like_name(value[1]) or type(value[2]) is not tuple or most == 0:
        return False
    if not all(type(case) is tuple and len(case) == 2 and looks_like_term(case[0]) for case in value[2]):
        return False
    terms = [case[0] for case in value[2]]
    return (len(set(terms)) == len(terms) and value[1] not in terms and looks_like_bars(value[3], most - 1)
            and all(looks_like_bars(case[1], most - 1) for case in value[2]))


def chain(many, side, end=NONE):
    """A bar tree of this depth, whose inner nodes all stand on one side."""
    tree = end
    for number in range(many):
        tree = ("is", "x", ((number, tree),), NONE) if side == "case" else ("is", "x", ((number, NONE),), tree)
    return tree


TREE = ("is", "x", ((3, ("never", 0)), ("y", ("pair", 1))), ("is", "y", ((4, ("both", 0, 2)),), ("stays", 0)))
RIGHT = [NONE, ("pair", 0), ("stays", HUGE), ("both", 0, 7), ("never", 3), TREE, ("is", "x", (), NONE),
         ("is", "x", (("is", NONE), ("none", NONE)), NONE), ("is", "is", ((0, NONE), (1, NONE), (-HUGE, TREE)), TREE),
         chain(20, "case"), chain(20, "other"), chain(10, "case", chain(10, "other"))]
NEAR = [
    (), ("is",), ("none", 0), ("pair",), ("pair", 0, 0), ("both", 0), ("both", 0, 0, 0), ("never", -1), ("stays", True),
    ("both", 0, False), ("both", -1, 0), ("pair", None), ("pair", "0"), ("pair", (0,)), ["none"], ["pair", 0], ("None",),
    ("match", 0, ()), ("is", "x", ()), ("is", "x", (), NONE, NONE), ("is", "X", (), NONE), ("is", 3, (), NONE),
    ("is", "x", [], NONE), ("is", "x", {}, NONE), ("is", "x", (("x", NONE),), NONE), ("is", "x", ((1, NONE), (1, NONE)), NONE),
    ("is", "x", (("y", NONE), (1, NONE), ("y", TREE)), NONE), ("is", "x", ((True, NONE),), NONE), ("is", "x", ((1, NONE, NONE),), NONE),
    ("is", "x", ((1,),), NONE), ("is", "x", ([1, NONE],), NONE), ("is", "x", (("Y", NONE),), NONE), ("is", "x", ((None, NONE),), NONE),
    ("is", "x", ((1, ("pair", -1)),), NONE), ("is", "x", ((1, NONE),), ("never", True)), ("is", "x", (1, NONE), NONE),
    ("is", "x", ((1, None),), NONE), ("is", "x", ((1, NONE),), None), ("is", "abcdefghi", (), NONE), ["is", "x", (), NONE],
    chain(21, "case"), chain(21, "other"), chain(100, "case"), chain(100, "other"), chain(20, "other", ("pair", -1)),
    chain(11, "case", chain(10, "other")),
]


class FormTests(ErrorTests):
    def test_is_bars(self):
        for value in RIGHT:
            self.assertIs(is_bars(value), True, str(value)[:80])
        for value in NEAR:
            self.assertIs(is_bars(value), False, str(value)[:80])
        for value in every_value():
            self.assertIs(is_bars(value), looks_like_bars(value), str(value)[:80])

    def test_one_wrong_part(self):
        for wrong in every_value():
            for value in ((wrong,), (wrong, 0), ("pair", wrong), ("both", 0, wrong), ("both", wrong, 0), (wrong, "x", (), NONE),
                          ("is", wrong, (), NONE), ("is", "x", wrong, NONE), ("is", "x", (wrong,), NONE),
                          ("is", "x", ((wrong, NONE),), NONE), ("is", "x", ((1, wrong),), NONE), ("is", "x", (), wrong),
                          ("is", "x", ((1, ("is", "y", ((wrong, NONE),), NONE)),), NONE)):
                self.assertIs(is_bars(value), looks_like_bars(value), str(value)[:80])

    def test_deep_values(self):
        for kind in (list, tuple, dict):
            self.assertIs(is_bars(nested(kind, 100)), False)
            self.assertIs(is_bars(("is", "x", ((1, nested(kind, 96)),), NONE)), False)

    def test_reason_at(self):
        for numbers, expected in (
                ({"x": 3, "y": 3}, ("never", 0)), ({"x": 3, "y": 4}, ("never", 0)), ({"x": 5, "y": 5}, ("pair", 1)),
                ({"x": 4, "y": 4}, ("pair", 1)), ({"x": 5, "y": 4}, ("both", 0, 2)), ({"y": 3, "x": 4}, ("stays", 0)),
                ({"x": 5, "y": 4, "is": 9}, ("both", 0, 2))):
            self.assertEqual(reason_at(TREE, numbers), expected)
        self.assertEqual(reason_at(NONE, {}), NONE)
        self.assertEqual(reason_at(("is", "x", (), ("pair", 9)), {"x": 0}), ("pair", 9))
        self.assertEqual(reason_at(chain(20, "other", ("never", 1)), {"x": 20}), ("never", 1))
        # The first case that is equal counts.
        tree = ("is", "x", (("y", ("pair", 1)), (3, ("pair", 2)), ("z", ("pair", 3))), NONE)
        self.assertEqual([reason_at(tree, {"x": x, "y": y, "z": 3}) for x, y in ((3, 3), (3, 4), (5, 5), (5, 4))],
                         [("pair", 1), ("pair", 2), ("pair", 1), NONE])

    def test_numbers_that_are_missing(self):
        tree = ("is", "x", ((1, ("is", "y", (("z", NONE),), NONE)),), ("is", "w", (), NONE))
        numbers = {"x": 7, "y": 1, "z": 2, "w": 3}
        self.assertEqual(reason_at(tree, numbers), NONE)
        self.assertEqual(list(numbers), ["x", "y", "z", "w"])
        # All names in the tree are asked for, also where the integers do not come.
        for name in numbers:
            self.assert_error(InvalidOperation, reason_at, [tree, {key: 1 for key in numbers if key != name}])
            self.assert_error(InvalidOperation, reason_at, [tree, {**numbers, name: True}])
            self.assert_error(InvalidOperation, reason_at, [tree, {**numbers, name: "x"}])
        for bad in ({**numbers, "X": 1}, {**numbers, 1: 1}, {**numbers, "more": None}, {**numbers, "": 1}, list(numbers), None):
            self.assert_error(InvalidOperation, reason_at, [tree, bad])

    def test_errors_of_reason_at(self):
        no_bars = wrong_for(looks_like_bars) + NEAR
        tree = ("is", "x", ((2, NONE),), NONE)
        no_dicts = wrong_for(lambda value: type(value) is dict and "x" in value and all(
            looks_like_name(key) and is_plain_integer(value[key]) for key in value))
        self.check_errors(reason_at, (tree, no_bars, InvalidOperation), ({"x": 1}, no_dicts, InvalidOperation))


class BarTreeTests(ErrorTests):
    def check(self, expected, rule, base, licence, answer, tree):
        self.assertIs(is_bar_tree(Question(rule), base, licence, answer, 0, tree), expected, str(tree)[:200])
        if len(oracle.variables(rule)) < 4 and len(base) < 10:
            self.assertIs(oracle.is_right_bars(tree, rule, base.rows, licence, answer), expected, "the plain search")

    def test_pairs(self):
        rule = make_rule(("x",), ("r", "x", "y"), unlike=(("x", 3), ("x", "y"), (4, 4)))
        self.check(True, rule, ROWS, GROWING, (3,), ("pair", 0))
        self.check(False, rule, ROWS, GROWING, (4,), ("pair", 0))
        self.check(True, rule, ROWS, GROWING, (4,), ("pair", 2))
        self.check(False, rule, ROWS, GROWING, (3,), ("pair", 3))
        self.check(False, rule, ROWS, GROWING, (4,), ("pair", 1))
        self.check(True, rule, ROWS, GROWING, (4,), ("is", "y", (("x", ("pair", 1)),), ("pair", 2)))
        self.check(True, rule, ROWS, GROWING, (4,), ("is", "y", ((4, ("pair", 1)),), ("pair", 2)))
        self.check(False, rule, ROWS, GROWING, (4,), ("is", "y", ((4, ("pair", 2)),), ("pair", 1)))

    def test_stays(self):
        rule = make_rule(("x",), ("t", "x"), ("t", "y"), barred=(("s", "x"), ("s", "y")))
        self.check(True, rule, ROWS, GROWING, (2,), ("stays", 0))
        self.check(False, rule, ROWS, GROWING, (1,), ("stays", 0))
        self.check(False, rule, ROWS, Licence(go=(("s", 2),)), (2,), ("stays", 0))
        self.check(True, rule, ROWS, Licence(go="any", kept=(("s", "x"),)), (2,), ("stays", 0))
        self.check(False, rule, ROWS, GROWING, (2,), ("stays", 1))
        self.check(True, rule, ROWS, GROWING, (2,), ("is", "y", (("x", ("stays", 1)),), ("stays", 0)))
        self.check(True, rule, ROWS, GROWING, (2,), ("is", "y", ((2, ("stays", 1)),), ("stays", 0)))
        self.check(False, rule, ROWS, GROWING, (2,), ("stays", 2))

    def test_both(self):
        rule = make_rule(("x",), ("r", "x", "y"), ("r", "z", 3), barred=(("r", "y", "x"), ("r", "z", 3), ("r", "x")))
        self.check(True, rule, ROWS, GROWING, (1,), ("both", 1, 1))
        for leaf in (("both", 0, 0), ("both", 0, 1), ("both", 0, 2), ("both", 2, 0), ("both", 0, 3)):
            self.check(False, rule, ROWS, GROWING, (1,), leaf)
        self.check(True, rule, ROWS, GROWING, (1,), ("is", "y", (("x", ("both", 0, 0)),), ("both", 1, 1)))
        tree = ("is", "z", (("x", ("is", "y", ((3, ("both", 0, 1)),), ("both", 1, 1))),), ("both", 1, 1))
        self.check(True, rule, ROWS, GROWING, (1,), tree)
        self.check(False, rule, ROWS, GROWING, (1,), ("is", "y", ((3, ("both", 0, 1)),), ("both", 1, 1)))

    def test_never(self):
        rule = make_rule(("x",), ("t", "x"), ("r", "x", "y"))
        known = GROWING.sealed(("t", "x"))
        self.check(True, rule, ROWS, known, (3,), ("never", 0))
        self.check(False, rule, ROWS, known, (1,), ("never", 0))
        self.check(False, rule, ROWS, known, (3,), ("never", 1))
        self.check(False, rule, ROWS, known, (3,), ("never", 2))
        self.check(False, rule, ROWS, GROWING, (3,), ("never", 0))
        self.check(True, rule, ROWS, Licence(come=(("t", 4), ("s", 3), ("t", 3, 3))), (3,), ("never", 0))
        self.check(False, rule, ROWS, Licence(come=(("t", 4), ("t", 3))), (3,), ("never", 0))
        self.check(True, rule, ROWS, Licence(come=(("r", "x", "x"),)), (3,), ("is", "y", ((3, ("never", 0)),), ("never", 1)))
        self.check(False, rule, ROWS, Licence(come=(("r", "x", "x"),)), (3,), ("never", 1))
        self.check(False, rule, ROWS.with_rows(("r", 3, 8)), Licence(), (3,), ("never", 1))
        self.check(True, rule, ROWS.with_rows(("r", 3, 8)), Licence(), (3,), ("is", "y", ((8, ("never", 0)),), ("never", 1)))
        # A row that is there and may go is no row that is never there.
        self.check(False, rule, ROWS, Licence(go="any"), (1,), ("never", 0))

    def test_rows_that_are_shut_only_together(self):
        rule = make_rule((), ("r", "x", "y"))
        halves = (("r", "x", "x"), ("r", 1, "y"))
        self.check(False, rule, Database(), Licence(come="any", shut=halves), (), ("never", 0))
        self.check(False, rule, Database(), Licence(come=(("r", 1, "y"), ("r", 2, 2), ("r", 4, "y")), shut=halves), (), ("never", 0))
        self.check(True, rule, Database(), Licence(come=(("r", 1, "y"), ("r", 2, 2), ("r", "z", "z")), shut=halves), (), ("never", 0))
        tree = ("is", "x", (("y", ("never", 0)), (1, ("never", 0))), ("never", 0))
        self.check(False, rule, Database(), Licence(come="any", shut=halves), (), tree)
        self.check(True, rule, Database(), Licence(come="any", shut=halves + (("r", "x", "y"),)), (), ("never", 0))
        self.check(True, rule, Database(), Licence(come=(("r", 1, "z"), ("r", "y", "y")), shut=halves), (), tree)
        three = tuple(("r", number, "x") for number in range(3))
        self.check(True, rule, Database(), Licence(come=three, shut=three), (), ("never", 0))
        self.check(False, rule, Database(), Licence(come=three, shut=three[:2]), (), ("never", 0))
        self.check(False, rule, Database(), Licence(come=three, shut=three[:2]), (), ("is", "x", ((2, NONE),), ("never", 0)))

    def test_equal_blanks(self):
        rule = make_rule((), ("u", "x", "y", "z"), unlike=(("x", "y"),))
        licence = Licence(come=(("u", "a", "a", "b"),))
        self.check(False, rule, Database(), licence, (), ("never", 0))
        self.check(True, rule, Database(), licence, (), ("is", "x", (("y", ("pair", 0)),), ("never", 0)))
        self.check(True, rule, Database(), licence.sealed(("u", "x", "x", "y")), (), ("never", 0))
        self.check(True, rule, Database(), licence.sealed(("u", "x", "y", "z")), (), ("never", 0))
        self.check(False, rule, Database(), licence.sealed(("u", "x", "y", "y")), (), ("never", 0))
        self.check(False, rule, Database(), licence.sealed(("u", "x", "x", "x")), (), ("never", 0))
        # Equal names of a variable and of a blank mean nothing to one another.
        self.check(False, rule, Database(), Licence(come=(("u", "y", "z", "x"),)), (), ("never", 0))
        self.check(True, rule, Database(), Licence(come=(("u", "y", "z", "x"),), shut=(("u", "z", "y", "w"),)), (), ("never", 0))

    def test_variables_that_become_equal_by_one_another(self):
        rule = make_rule((), ("t", "x"), ("t", "y"), ("t", "z"), unlike=(("x", "z"),))
        inner = ("is", "y", (("z", ("pair", 0)),), ("never", 0))
        sealed = GROWING.sealed(("t", "w"))
        self.check(False, rule, Database(), GROWING, (), ("is", "x", (("y", inner),), NONE))
        self.check(True, rule, Database(), sealed, (), ("is", "x", (("y", inner),), ("never", 1)))
        self.check(True, rule, Database(), sealed, (), ("is", "x", ((4, ("is", "z", ((4, ("pair", 0)),), ("never", 2))),), ("never", 1)))
        self.check(False, rule, Database(), sealed, (), ("is", "x", ((4, ("is", "z", ((5, ("pair", 0)),), ("never", 2))),), ("never", 1)))
        away = ("is", "x", (("y", ("is", "z", (("y", ("is", "x", (("z", ("never", 0)),), NONE)),), ("never", 0))),), ("never", 0))
        self.check(True, rule, Database(), sealed, (), away)

    def test_leaves_that_nothing_reaches(self):
        rule = make_rule(("x",), ("t", "x"), ("t", "y"), unlike=(("y", "y"),))
        everything = ("pair", 0)
        for leaf, expected in ((NONE, True), (("pair", 0), True), (("pair", 1), False), (("never", 1), True), (("never", 2), False),
                               (("stays", 0), False), (("both", 0, 0), False)):
            self.check(expected, rule, ROWS, GROWING, (1,), ("is", "x", ((1, everything),), leaf))
            self.check(expected, rule, ROWS, GROWING, (1,), ("is", "x", ((2, leaf),), everything))
            self.check(expected, rule, ROWS, GROWING, (1,), ("is", "y", ((2, ("is", "y", ((3, leaf),), everything)),), everything))
            self.check(expected, rule, ROWS, GROWING, (1,), ("is", "y", (("x", everything), (1, leaf)), everything))
            again = ("is", "x", (("y", ("is", "y", (("x", everything),), leaf)),), everything)
            self.check(expected, rule, ROWS, GROWING, (1,), again)
        # A head that is not the answer leaves nothing.
        other = make_rule((5, "x", "x"), ("t", "x"))
        self.check(True, other, ROWS, GROWING, (4, 1, 1), NONE)
        self.check(True, other, ROWS, GROWING, (5, 1, 2), ("never", 0))
        self.check(False, other, ROWS, GROWING, (5, 1, 2), ("never", 1))
        self.check(False, other, ROWS, GROWING, (5, 1, 1), NONE)

    def test_names_that_the_rule_does_not_have(self):
        rule = make_rule((), ("t", "x"), unlike=(("x", "x"),))
        right = ("pair", 0)
        self.check(True, rule, ROWS, GROWING, (), ("is", "x", ((1, right), (2, right)), right))
        self.check(False, rule, ROWS, GROWING, (), ("is", "y", (), right))
        self.check(False, rule, ROWS, GROWING, (), ("is", "x", (("y", right),), right))
        self.check(False, rule, ROWS, GROWING, (), ("is", "x", ((1, ("is", "x", ((2, ("is", "z", (), right)),), right)),), right))
        ground = make_rule((), ("t", 3), unlike=((3, 3),))
        self.check(True, ground, ROWS, GROWING, (), right)
        self.check(False, ground, ROWS, GROWING, (), ("is", "x", (), right))

    def test_depth_of_twenty_and_twenty_one(self):
        rule = make_rule((), ("t", "x"), unlike=(("x", "x"),))
        for many, expected in ((20, True), (21, False)):
            tree = ("pair", 0)
            for number in range(many):
                tree = ("is", "x", ((number, ("pair", 0)),), tree)
            self.assertIs(is_bar_tree(Question(rule), ROWS, GROWING, (), 0, tree), expected)

    def test_questions_of_several_rules(self):
        two = Question(make_rule((), ("t", "x"), unlike=(("x", "x"),)), make_rule((), ("t", "y"), barred=(("t", "y"),)))
        for index, tree, expected in ((0, ("pair", 0), True), (1, ("pair", 0), False), (1, ("both", 0, 0), True),
                                      (0, ("both", 0, 0), False), (1, ("is", "y", (), ("both", 0, 0)), True),
                                      (0, ("is", "y", (), ("pair", 0)), False)):
            self.assertIs(is_bar_tree(two, ROWS, GROWING, (), index, tree), expected)

    def test_great_databases(self):
        many = Database(*[("t", number) for number in range(100)])
        rule = make_rule((), ("t", "x"), barred=(("s", "x"),))
        cases = tuple((number, ("stays", 0)) for number in range(100))
        stuck = many | Database(*[("s", number) for number in range(100)])
        self.assertIs(is_bar_tree(Question(rule), stuck, Licence(), (), 0, ("is", "x", cases, ("never", 0))), True)
        self.assertIs(is_bar_tree(Question(rule), stuck, Licence(), (), 0, ("is", "x", cases[:-1], ("never", 0))), False)
        self.assertIs(is_bar_tree(Question(rule), stuck, Licence(come=(("t", 100),)), (), 0, ("is", "x", cases, ("never", 0))), False)

    def test_by_trial(self):
        source = random.Random(31)
        told = []
        for _ in range(2500):
            question, base, licence, answer = some_bar_case(source)
            rule = question.rules[0]
            paper = out_paper(question, base, licence, answer)
            first = paper[1][0] if paper[0] == "out" else NONE
            terms = [-1, 0, 1, 2] + oracle.variables(rule)
            for _ in range(5):
                tree = first
                for _ in range(source.randrange(1, 4)):
                    tree = some_other_bars(source, tree, terms, bar_leaves_of(rule))
                expected = oracle.is_right_bars(tree, rule, base.rows, licence, answer)
                told.append((expected, tree[0] == "is"))
                self.assertIs(is_bar_tree(question, base, licence, answer, 0, tree), expected,
                              (rule, base.rows, licence.come, licence.go, licence.shut, licence.kept, answer, tree))
        for kind in ((True, True), (True, False), (False, True), (False, False)):
            self.assertGreater(told.count(kind), 200)

    def test_rules_of_all_kinds_by_trial(self):
        source = random.Random(32)
        told = []
        for _ in range(800):
            question, base, licence, answer = some_case(source)
            for index, rule in enumerate(question.rules):
                tree = some_other_bars(source, NONE, [0, 1, 2] + oracle.variables(rule), bar_leaves_of(rule))
                expected = oracle.is_right_bars(tree, rule, base.rows, licence, answer)
                told.append(expected)
                self.assertIs(is_bar_tree(question, base, licence, answer, index, tree), expected)
        self.assertGreater(min(told.count(True), told.count(False)), 200)

    def test_every_value(self):
        for value in every_value() + NEAR:
            self.assertIs(is_bar_tree(EITHER, ROWS, GROWING, (), 0, value), False)
            self.assertIs(is_bar_tree(ALONE, ROWS, GROWING, (2,), 0, ("is", "x", ((2, value),), NONE)), False)
        self.assertIs(is_bar_tree(ALONE, ROWS, GROWING, (2,), 0, ("is", "x", ((2, ("stays", 0)),), NONE)), True)

    def test_what_two_variables_differ_from(self):
        # b differs from a and from 5, and still does so when a is 7.
        question = Question(make_rule((), ("r", "a", "b"), barred=(("s", "b"),), unlike=(("a", "b"),)))
        base, licence = Database(("s", 5)), Licence(come=(("r", 7, 5),))
        for first, second in (("a", "b"), ("b", "a")):
            for last in (("is", "a", ((7, ("never", 0)),), ("never", 0)), ("never", 0)):
                below = ("is", "b", ((5, ("stays", 0)),), last)
                tree = ("is", first, ((second, ("pair", 0)),), below)
                self.assertIs(is_bar_tree(question, base, licence, (), 0, tree), True)
                self.assertIs(oracle.is_right_bars(tree, question.rules[0], base.rows, licence, ()), True)
                for other in (("is", "b", ((6, ("stays", 0)),), last), ("is", "b", ((5, ("never", 0)),), last), last):
                    wrong = ("is", first, ((second, ("pair", 0)),), other)
                    self.assertIs(is_bar_tree(question, base, licence, (), 0, wrong), False)

    def test_errors(self):
        self.check_errors(lambda *five: is_bar_tree(*five, NONE), *CASE, (1, wrong_indices(2), InvalidNumber))
        for index in (0, -1, True, None):
            self.assert_error(InvalidNumber, is_bar_tree, [Question(width=1), ROWS, GROWING, (1,), index, NONE], index)
        for value in every_value():
            self.assert_error(InvalidNumber, is_bar_tree, [SPLIT, ROWS, GROWING, (1,), 2, value], 2)


if __name__ == "__main__":
    unittest.main()
