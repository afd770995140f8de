"""[0.3], [0.4], [0.5] and [0.22]: the errors of the parameters, over all functions, told by one table."""

import inspect
import unittest

from firmrows.ask.matches import answer_of, first_match, is_match, matches, matches_of, rows_of
from firmrows.ask.questions import Question, is_rule, make_rule, variables_of
from firmrows.base.databases import Database
from firmrows.base.patterns import blanks_of, common, covers, filled, fits, plain
from firmrows.base.rows import is_name, is_pattern, is_row
from firmrows.compare.frozen import frozen_rules
from firmrows.compare.named import copy_of, fresh, is_matter_paper, matter_paper, mattering
from firmrows.compare.needless import needless, part_paper, parts_of, rest_of, trimmed
from firmrows.compare.within import comparison, is_within_paper, within_paper
from firmrows.early.early import early_paper, is_early, is_early_paper, kept_answers
from firmrows.errors import (
    InvalidAnswer, InvalidDatabase, InvalidLicence, InvalidNumber, InvalidOperation, InvalidPattern, InvalidQuestion, InvalidRow,
)
from firmrows.future.futures import barrier, can_change, changed, futures, is_future
from firmrows.future.licences import Licence
from firmrows.papers.bars import is_bar_tree, is_bars, reason_at
from firmrows.papers.counts import deciders, least_tree, share, weights
from firmrows.papers.firm import firm_answers, firm_paper, is_firm_paper, is_spoiler, open_rows
from firmrows.papers.out import can_be, is_maker, is_out_paper, out_paper, status, statuses
from firmrows.papers.trees import asked, depth, is_case_tree, is_tree, leaf_at
from tests.samples import (
    ALONE, GROWING, ROWS, SPLIT, ErrorTests, every_value, is_plain_integer, looks_like_integers, wrong_answers, wrong_bindings,
    wrong_for, wrong_indices, wrong_objects, wrong_patterns, wrong_rows,
)
from tests.test_bars import looks_like_bars
from tests.test_trees import TREE, wrong_trees

# What each parameter can be, whatever the function: a right value, wrong ones, and their error.
KINDS = {
    "row": (("t", 1), wrong_rows(), InvalidRow),
    "pattern": (("t", "x"), wrong_patterns(), InvalidPattern),
    "database": (ROWS, wrong_objects(Database), InvalidDatabase),
    "question": (SPLIT, wrong_objects(Question), InvalidQuestion),
    "rule": (SPLIT.rules[0], wrong_for(lambda value: type(value) is tuple and value in (
        ((), (), (), ()), (("x",), (("t", "x"),), (), ()))), InvalidQuestion),
    "licence": (GROWING, wrong_objects(Licence), InvalidLicence),
    "answer": ((1,), wrong_answers(1), InvalidAnswer),
    "index": (1, wrong_indices(2), InvalidNumber),
    "match": ({"x": 1}, wrong_bindings(["x"]), InvalidOperation),
    "tree": (TREE, wrong_trees(), InvalidOperation),
    "bars": (("none",), wrong_for(looks_like_bars), InvalidOperation),
    "part": (("rule", 0), wrong_for(lambda value: value == ("rule", 0)), InvalidOperation),
    "number": (3, wrong_for(is_plain_integer), InvalidNumber),
    "named": ((1, 2), wrong_for(looks_like_integers), InvalidOperation),
}
CASE = ("question", "database", "licence", "answer")
TABLE = {
    blanks_of: ("pattern",), plain: ("pattern",), fits: ("pattern", "row"), covers: ("pattern", "pattern"),
    common: ("pattern", "pattern"), filled: ("pattern", "match"), variables_of: ("rule",),
    first_match: ("question", "database", "answer"), is_match: ("question", "database", "index"),
    answer_of: ("question", "index", "match"), rows_of: ("question", "index", "match"),
    can_change: ("database", "licence", "row"), changed: ("database", "licence"), is_future: ("database", "licence"),
    barrier: ("database", "licence", "database"), depth: ("tree",), asked: ("tree",), leaf_at: ("tree", "database"),
    is_case_tree: CASE, open_rows: CASE, firm_paper: CASE, is_firm_paper: CASE, is_spoiler: CASE, firm_answers: CASE[:3],
    is_bar_tree: CASE + ("index",), reason_at: ("bars",), out_paper: CASE, is_out_paper: CASE, is_maker: CASE, can_be: CASE,
    status: CASE, statuses: CASE[:3], share: CASE, deciders: CASE, weights: CASE, least_tree: CASE,
    frozen_rules: ("question",), within_paper: ("question", "question"), is_within_paper: ("question", "question"),
    comparison: ("question", "question"), parts_of: ("question",), rest_of: ("question", "part"),
    part_paper: ("question", "part"), needless: ("question",), trimmed: ("question",), fresh: ("question",),
    copy_of: ("question", "number"), mattering: ("question",), matter_paper: ("question", "number"),
    is_matter_paper: ("question", "number"), early_paper: ("question",), is_early_paper: ("question",), is_early: ("question",),
    kept_answers: ("question", "database"),
}
GENERATORS = {matches: ("question", "database"), matches_of: ("question", "database", "answer"), futures: ("database", "licence")}
FREE = {is_match: 1, is_future: 1, is_case_tree: 1, is_firm_paper: 1, is_spoiler: 1, is_bar_tree: 1, is_out_paper: 1, is_maker: 1,
        is_within_paper: 1, is_matter_paper: 1, is_early_paper: 1, reason_at: 1, futures: 1}
JUDGES = [function for function in FREE if function.__name__.startswith("is_")]


def wrongs_of(function, kind):
    right, wrong, error = KINDS[kind]
    # In a pattern with a blank x more dicts than those of a match are right.
    if function is filled and kind == "match":
        wrong = [value for value in wrong if not (type(value) is dict and "x" in value)]
    return right, wrong, error


class ArgumentTests(ErrorTests):
    def test_each_function(self):
        for function, kinds in TABLE.items():
            more = [{}] if function is reason_at else [None] * FREE.get(function, 0)
            with self.subTest(function=function.__name__):
                self.check_errors(lambda *given: function(*given, *more), *[wrongs_of(function, kind) for kind in kinds])

    def test_generators(self):
        for function, kinds in GENERATORS.items():
            more = [()] * FREE.get(function, 0)
            with self.subTest(function=function.__name__):
                self.check_errors(lambda *given: list(function(*given, *more)), *[wrongs_of(function, kind) for kind in kinds])

    def test_judges_accept_every_value(self):
        for function in JUDGES:
            rights = [KINDS[kind][0] for kind in TABLE[function]]
            for value in every_value():
                self.assertIn(function(*rights, value), (True, False))
        for function in (is_name, is_row, is_pattern, is_rule, is_tree, is_bars):
            for value in every_value():
                self.assertIn(function(value), (True, False))

    def test_judges_check_the_other_parameters_first(self):
        for function in JUDGES:
            for place, kind in enumerate(TABLE[function]):
                given = [KINDS[one][0] for one in TABLE[function]]
                given[place] = None
                for value in every_value():
                    self.assert_error(KINDS[kind][2], function, given + [value], None)

    def test_widths_of_answers(self):
        for width in range(4):
            question = Question(make_rule((1,) * width))
            for function, kinds in TABLE.items():
                if kinds[:4] == CASE:
                    more = [0] * (len(kinds) - 4) + [None] * FREE.get(function, 0)
                    for value in ((1,) * (width + 1), (1,) * width + (True,), [1] * width, (True,) * width if width else None):
                        self.assert_error(InvalidAnswer, function, [question, ROWS, GROWING, value] + more)
                    function(question, ROWS, GROWING, (1,) * width, *more)

    def test_what_comes_by_keyword(self):
        # [0.3]: parameters after the star by keyword, in any order.
        self.assertEqual(frozen_rules(ALONE, named=()), frozen_rules(ALONE))
        self.assertRaises(TypeError, frozen_rules, ALONE, ())
        self.assertEqual(make_rule((), unlike=(), barred=()), make_rule(()))
        for function in list(TABLE) + list(GENERATORS):
            for parameter in inspect.signature(function).parameters.values():
                if parameter.kind is parameter.KEYWORD_ONLY:
                    self.assertIsNot(parameter.default, parameter.empty)

    def test_nothing_changes(self):
        told = {kind: repr(KINDS[kind][0]) for kind in KINDS if not hasattr(KINDS[kind][0], "__dict__")}
        for function, kinds in TABLE.items():
            more = [{}] if function is reason_at else [None] * FREE.get(function, 0)
            given = [KINDS[kind][0] for kind in kinds]
            self.assertEqual(repr_of(function(*given, *more)), repr_of(function(*given, *more)))
        for kind in told:
            self.assertEqual(repr(KINDS[kind][0]), told[kind])
        self.assertEqual(SPLIT, ALONE | Question(make_rule(("x",), ("t", "x"), ("s", "x"))))
        self.assertEqual([ROWS.rows, GROWING.come, GROWING.shut], [(("s", 2), ("t", 1), ("t", 2)), "any", ()])


def repr_of(value):
    """A text that is equal for equal results."""
    if isinstance(value, Database):
        return repr(value.rows)
    if isinstance(value, Question):
        return repr((value.rules, value.width))
    if isinstance(value, tuple):
        return "(" + ", ".join(repr_of(part) for part in value) + ")"
    return repr(value)


if __name__ == "__main__":
    unittest.main()
