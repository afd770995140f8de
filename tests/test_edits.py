"""Edits: promises [17.1] to [17.4], and edit papers of [17.5]."""

import random
import unittest
from itertools import product

from firmrows.ask.questions import Question, make_rule
from firmrows.base.databases import Database
from firmrows.base.patterns import fits
from firmrows.errors import InvalidAnswer, InvalidEdit, InvalidPattern, InvalidQuestion, TooMany
from firmrows.future.licences import Licence
from firmrows.live.edits import (
    edit_paper, effects, frozen_pairs, gain_paper, is_deaf, is_edit_paper, is_gain_paper, is_loss_paper, loss_paper,
)
from firmrows.papers.trees import depth, is_case_tree
from tests import oracle
from tests.chance import some_other_tree, some_pattern, some_row, some_small_question
from tests.samples import (
    ALONE, EITHER, HUGE, ROWS, SPLIT, ErrorTests, every_value, looks_like_edit, looks_like_integers, looks_like_row, wrong_answers,
    wrong_for, wrong_objects, wrong_patterns,
)

QUESTIONS = (SPLIT, wrong_objects(Question), InvalidQuestion)
PATTERNS = (("s", "x"), wrong_patterns(), InvalidPattern)
EDITS = (("put", ("s", "x")), wrong_for(looks_like_edit), InvalidEdit)
ROW_EDITS = (("put", ("s", 1)), wrong_for(lambda value: looks_like_edit(value) and looks_like_row(value[1])), InvalidEdit)


def used_pattern(source, question):
    """A pattern of a table that the question asks for, mostly."""
    names = ("x", "y", "a")
    tables = oracle.tables_of(question.rules)
    if not tables or source.random() < 0.1:
        return some_pattern(source, names + (0, 1))
    name, many = source.choice(tables)
    return (name,) + tuple(source.choice(names + (0, 1, 5)) for _ in range(many))


def cases_of(pairs, gains):
    """For each pair with a tree: database, licence and answer, as the document says."""
    found = []
    for head, rows, away, row in pairs:
        if gains and row in rows:
            licence = Licence(come="any", shut=away + (row,))
            found.append((Database(*[other for other in rows if other != row]), licence, head))
        if not gains and row not in rows:
            licence = Licence(come="any", shut=tuple(other for other in away if other != row))
            found.append((Database(*rows, row), licence, head))
    return found


def is_no_paper(question, pairs, gains, trees):
    cases = cases_of(pairs, gains)
    return type(trees) is tuple and len(trees) == len(cases) and all(
        oracle.is_right(tree, question.rules, base.rows, licence, head) for tree, (base, licence, head) in zip(trees, cases))


def changes_of(question, pattern, integers, most):
    """Whether some row of a pattern loses, and brings, an answer in some database of a few rows over some integers."""
    rows = oracle.all_rows(oracle.tables_of(question.rules), integers)
    if len(rows) > most:
        return None
    coming = [row for row in sorted(oracle.rows_fitting(pattern, integers)) if row in rows]
    answers = {frozenset(some): set(oracle.answers(question.rules, some)) for some in oracle.subsets(rows)}
    loses = brings = False
    for some in answers:
        for row in coming:
            if row not in some:
                loses = loses or not answers[some] <= answers[some | {row}]
                brings = brings or not answers[some | {row}] <= answers[some]
    return loses, brings


class EditTests(ErrorTests):
    def test_frozen_pairs_by_trial(self):
        source = random.Random(171)
        many = 0
        for _ in range(400):
            question = some_small_question(source, source.randrange(3))
            pattern = used_pattern(source, question)
            integers = oracle.integers_of(question.rules, (), [term for term in pattern[1:] if not isinstance(term, str)])
            wide = max([len(oracle.variables(rule)) for rule in question.rules] + [0]) + len(oracle.blanks(pattern))
            if (len(integers) + wide) ** wide < 4000:
                expected = oracle.frozen_pairs(question.rules, pattern, ())
                self.assertEqual(frozen_pairs(question, pattern), expected, (question.rules, pattern))
                many += len(expected) > 1
        self.assertGreater(many, 150)

    def test_frozen_pairs(self):
        rows, away = (("t", 0),), (("s", 0),)
        self.assertEqual(frozen_pairs(ALONE, ("s", "x")), (((0,), rows, away, ("s", 0)), ((0,), rows, away, ("s", 1))))
        # An equal name of a variable and of a blank means nothing; the integer of the pattern is one of N.
        self.assertEqual(frozen_pairs(ALONE, ("s", 0)), (
            ((0,), (("t", 0),), (("s", 0),), ("s", 0)), ((1,), (("t", 1),), (("s", 1),), ("s", 0))))
        self.assertEqual(frozen_pairs(Question(), ("s", "x")), ())
        self.assertEqual(frozen_pairs(EITHER, ("c",)), (((), (), (("a",),), ("c",)), ((), (), (("b",),), ("c",))))
        self.assertEqual([pair[3] for pair in frozen_pairs(Question(make_rule(())), ("r", "x", "y", "x"))], [("r", 0, 0, 0), ("r", 0, 1, 0)])

    def test_papers_by_trial(self):
        source = random.Random(172)
        told = []
        for _ in range(700):
            question = some_small_question(source, source.randrange(3))
            pattern = used_pattern(source, question)
            try:
                pairs = frozen_pairs(question, pattern)
                papers = (loss_paper(question, pattern), gain_paper(question, pattern))
            except TooMany as error:
                self.assertIn(error.limit, (16, 2000))
                continue
            for gains, paper, judge in ((False, papers[0], is_loss_paper), (True, papers[1], is_gain_paper)):
                word = "gain" if gains else "loss"
                self.assertIs(judge(question, pattern, paper), True)
                told.append((gains, paper[0]))
                if paper[0] == "no " + word:
                    self.assertTrue(is_no_paper(question, pairs, gains, paper[1]))
                    self.assertTrue(all(depth(tree) < 20 for tree in paper[1]))
                else:
                    _, base, row, answer = paper
                    self.assertEqual((paper[0], fits(pattern, row), row in base), (word, True, False))
                    before, later = oracle.answers(question.rules, base.rows), oracle.answers(question.rules, base.rows + (row,))
                    self.assertEqual((answer in before, answer in later), (not gains, gains))
            loses, brings = papers[0][0] == "loss", papers[1][0] == "gain"
            self.assertEqual(effects(question, ("put", pattern)), (loses, brings))
            self.assertEqual(effects(question, ("take", pattern)), (brings, loses))
            self.assertIs(is_deaf(question, pattern), not loses and not brings)
        for kind in ((False, "loss"), (False, "no loss"), (True, "gain"), (True, "no gain")):
            self.assertGreater(told.count(kind), 60)

    def test_all_databases_of_a_few_rows(self):
        source = random.Random(173)
        told = []
        while len(told) < 120:
            question = some_small_question(source, source.randrange(2))
            pattern = used_pattern(source, question)
            integers = tuple(sorted({*question.named[:2], *[term for term in pattern[1:] if not isinstance(term, str)], 50}))
            changes = changes_of(question, pattern, integers, 7)
            if changes is None:
                continue
            found = effects(question, ("put", pattern))
            told.append(found)
            # With more integers there can be more; with these there is not more than was told.
            self.assertFalse(changes[0] and not found[0] or changes[1] and not found[1], (question.rules, pattern))
            if not question.named and all(len(oracle.variables(rule)) < 2 for rule in question.rules) and len(integers) == 1:
                self.assertEqual(changes, found)
        for place in range(2):
            self.assertGreater(min([found[place] for found in told].count(kind) for kind in (True, False)), 10)

    def test_papers_with_something_otherwise(self):
        source = random.Random(174)
        told = []
        for _ in range(500):
            question = some_small_question(source, source.randrange(2))
            pattern = used_pattern(source, question)
            try:
                pairs = frozen_pairs(question, pattern)
                papers = (loss_paper(question, pattern), gain_paper(question, pattern))
            except TooMany:
                continue
            rows = oracle.all_rows(oracle.tables_of(question.rules), [0, 1, 5]) + [("b",)]
            for gains, judge in ((False, is_loss_paper), (True, is_gain_paper)):
                paper, word = papers[gains], "gain" if gains else "loss"
                if paper[0] == "no " + word and paper[1]:
                    trees = paper[1]
                    cases = cases_of(pairs, gains)
                    for _ in range(3):
                        at = source.randrange(len(trees))
                        leaves = [("match",) + way[:2] for way in oracle.ways_to(question.rules, cases[at][2], [0, 1])] + [("match", 9, ())]
                        given = trees[:at] + (some_other_tree(source, trees[at], rows, leaves),) + trees[at + 1:]
                        base, licence, head = cases[at]
                        expected = is_case_tree(question, base, licence, head, given[at])
                        self.assertIs(oracle.is_right(given[at], question.rules, base.rows, licence, head), expected)
                        told.append((False, expected))
                        self.assertIs(judge(question, pattern, ("no " + word, given)), expected)
                    at, other = source.randrange(len(trees)), source.randrange(len(trees))
                    given = list(trees)
                    given[at], given[other] = given[other], given[at]
                    self.assertIs(judge(question, pattern, ("no " + word, tuple(given))), is_no_paper(question, pairs, gains, tuple(given)))
                    for given in (trees[1:], trees + trees[-1:], trees[:1] + trees, list(trees)):
                        self.assertIs(judge(question, pattern, ("no " + word, given)), False)
                    self.assertIs(judge(question, pattern, ("no gain" if not gains else "no loss", trees)), False)
                elif paper[0] == word:
                    _, base, row, answer = paper
                    for _ in range(4):
                        other = base ^ Database(*source.sample(rows, source.randrange(min(3, len(rows)))))
                        given = source.choice((row, row, some_row(source, 2)))
                        wanted = source.choice((answer, answer, tuple(source.randrange(2) for _ in answer)))
                        before = wanted in oracle.answers(question.rules, other.rows)
                        later = wanted in oracle.answers(question.rules, other.rows + (given,))
                        expected = given not in other and oracle.fits(pattern, given) and before is not gains and later is gains
                        told.append((True, expected))
                        self.assertIs(judge(question, pattern, (word, other, given, wanted)), expected)
        for kind in product((True, False), (True, False)):
            self.assertGreater(told.count(kind), 100)

    def test_forms_of_papers(self):
        base = Database(("t", 1))
        for value, expected in (
                (("loss", base, ("s", 1), (1,)), True), (("loss", base, ("s", 2), (1,)), False), (("loss", base, ("t", 1), (1,)), False),
                (("loss", base.with_rows(("s", 1)), ("s", 1), (1,)), False), (("loss", base, ("s", True), (1,)), False),
                (("loss", base, ("s", 1), (True,)), False), (("loss", base, ("s", 1), [1]), False), (("loss", base, ("s", 1)), False),
                (("loss", base.rows, ("s", 1), (1,)), False), (("loss", base, ("s", "x"), (1,)), False), (["loss", base, ("s", 1), (1,)], False),
                (("gain", base, ("s", 1), (1,)), False), (("loss", base, ("s", 1), (1,), ()), False), (("loss",), False), (("no loss",), False),
                (("loss", Database(*[("t", number) for number in range(100)]), ("s", 99), (99,)), True)):
            self.assertIs(is_loss_paper(ALONE, ("s", "x"), value), expected, value)
        self.assertIs(is_gain_paper(ALONE, ("t", "x"), ("gain", Database(), ("t", 5), (5,))), True)
        self.assertIs(is_gain_paper(ALONE, ("t", 6), ("gain", Database(), ("t", 5), (5,))), False)
        self.assertIs(is_gain_paper(ALONE, ("t", "x"), ("gain", Database(("s", 5)), ("t", 5), (5,))), False)
        self.assertEqual(loss_paper(SPLIT, ("c", "x"))[0], "no loss")
        self.assertEqual(gain_paper(Question(), ("c", "x")), ("no gain", ()))
        leaf = ("match", 1, (0,))
        self.assertIs(is_loss_paper(SPLIT, ("s", "x"), ("no loss", (leaf, leaf, ("match", 0, (0,))))), True)
        tree = leaf
        for number in range(21):
            given = ("no loss", (leaf, tree, ("match", 0, (0,))))
            self.assertIs(is_loss_paper(SPLIT, ("s", "x"), given), True)
            tree = ("ask", ("b", number), leaf, tree)
        self.assertIs(is_loss_paper(SPLIT, ("s", "x"), ("no loss", (leaf, tree, ("match", 0, (0,))))), False)

    def test_effects(self):
        for question, edit, expected in (
                (ALONE, ("put", ("s", "x")), (True, False)), (ALONE, ("take", ("s", "x")), (False, True)), (ALONE, ("put", ("t", 5)), (False, True)),
                (ALONE, ("take", ("t", 5)), (True, False)), (SPLIT, ("put", ("s", 1)), (False, False)), (EITHER, ("put", ("a",)), (True, False)),
                (EITHER, ("put", ("c",)), (False, False)), (EITHER, ("take", ("b",)), (False, True)), (Question(), ("put", ("a",)), (False, False)),
                (Question(make_rule((), ("r", "x", "y"), barred=(("r", "y", "x"),))), ("put", ("r", "a", "b")), (True, True)),
                (Question(make_rule((), ("r", "x", "y"), barred=(("r", "y", "x"),))), ("put", ("r", "a", "a")), (False, False)),
                (Question(make_rule((), ("r", "x", "y"), barred=(("r", "y", "x"),))), ("put", ("r", HUGE, 1)), (True, True))):
            self.assertEqual(effects(question, edit), expected, edit)
            self.assertIs(is_deaf(question, edit[1]), expected == (False, False))
        # [0.20]: deaf to the rows that fit two patterns, but not to those that fit one of them.
        question = Question(make_rule((), ("r", "x", "y"), unlike=(("x", "y"),)))
        self.assertEqual([is_deaf(question, ("r", "x", "x")), is_deaf(question, ("r", "x", "y"))], [True, False])

    def test_edit_papers_by_trial(self):
        source = random.Random(175)
        told = []
        for _ in range(900):
            question = some_small_question(source, source.randrange(3))
            row = oracle.put(used_pattern(source, question), {"x": 0, "y": 1, "a": source.choice((0, 7))})
            edit = (source.choice(("put", "take")), row)
            answer = tuple(source.choice((0, 0, 1, 7)) for _ in range(question.width))
            paper = edit_paper(question, edit, answer)
            told.append((edit[0], paper[0]))
            self.assertIs(is_edit_paper(question, edit, answer, paper), True)
            if paper[0] == "lost":
                before = set(paper[1].rows)
                later = before | {row} if edit[0] == "put" else before - {row}
                self.assertIn(answer, oracle.answers(question.rules, before))
                self.assertNotIn(answer, oracle.answers(question.rules, later))
                other = paper[1] ^ Database(some_row(source, 2))
                later = set(other.rows) | {row} if edit[0] == "put" else set(other.rows) - {row}
                expected = answer in oracle.answers(question.rules, other.rows) and answer not in oracle.answers(question.rules, later)
                self.assertIs(is_edit_paper(question, edit, answer, ("lost", other)), expected)
            else:
                gains = edit[0] == "take"
                pairs = [pair for pair in oracle.frozen_pairs(question.rules, row, answer) if pair[0] == answer]
                self.assertTrue(is_no_paper(question, pairs, gains, paper[1]))
                for given in (paper[1] + (("match", 0, ()),), paper[1][1:] if paper[1] else None, list(paper[1])):
                    self.assertIs(is_edit_paper(question, edit, answer, ("kept", given)), False)
                if paper[1]:
                    other = (some_other_tree(source, paper[1][0], [row, ("b",)], [("match", 0, ()), ("match", 9, ())]),) + paper[1][1:]
                    self.assertIs(is_edit_paper(question, edit, answer, ("kept", other)), is_no_paper(question, pairs, gains, other))
        for kind in product(("put", "take"), ("kept", "lost")):
            self.assertGreater(told.count(kind), 10)

    def test_edit_papers(self):
        self.assertEqual(edit_paper(ALONE, ("put", ("s", 2)), (1,)), ("kept", (("match", 0, (1,)),)))
        self.assertEqual(edit_paper(ALONE, ("put", ("s", 1)), (1,)), ("lost", Database(("t", 1))))
        self.assertEqual(edit_paper(ALONE, ("take", ("t", 1)), (1,))[0], "lost")
        self.assertEqual(edit_paper(ALONE, ("take", ("t", 2)), (1,)), ("kept", ()))
        self.assertEqual(edit_paper(ALONE, ("take", ("s", 1)), (1,)), ("kept", ()))
        self.assertEqual(edit_paper(Question(width=1), ("put", ("s", 1)), (1,)), ("kept", ()))
        self.assertIs(is_edit_paper(ALONE, ("put", ("s", 1)), (1,), ("lost", Database(("t", 1), ("s", 1)))), False)
        self.assertIs(is_edit_paper(ALONE, ("take", ("t", 1)), (1,), ("lost", Database(("t", 1), ("t", 2)))), True)
        self.assertIs(is_edit_paper(ALONE, ("take", ("t", 1)), (1,), ("lost", Database(("t", 2)))), False)

    def test_limits(self):
        wanted = (("t", "a"), ("t", "b"), ("t", "c"), ("t", "d"))
        many = Question(make_rule((), *wanted), *[make_rule((), *[("t", 4 * at + number) for number in range(4)]) for at in range(7)])
        with self.assertRaises(TooMany) as caught:
            frozen_pairs(many, ("t", "x"))
        self.assertEqual(caught.exception.limit, 2000)
        for function in (loss_paper, gain_paper, is_deaf, lambda question, pattern: effects(question, ("put", pattern))):
            try:
                function(many, ("t", "x"))
            except TooMany as error:
                self.assertIn(error.limit, (16, 2000))
        for pattern in (("t", "x"), ("t", 5), ("b", "x", "y", "z"), ("b",)):
            for value in (("no loss", ()), ("no gain", ()), ("no loss", (("match", 0, ()),) * 50), ("loss", ROWS, ("t", 1), ())):
                self.assertIs(is_loss_paper(many, pattern, value), False)
                self.assertIs(is_gain_paper(many, pattern, value), value == ("no gain", ()) and pattern[0] == "b")
        self.assertIs(is_edit_paper(many, ("take", ("t", 5)), (), ("kept", ())), False)
        # No limit where few ways are left.
        self.assertEqual(effects(many, ("put", ("b", "x", "y", "z"))), (False, False))
        # Eight hundred and seventy-seven ways, all of which are told.
        wide = Question(make_rule((), ("u", "a", "b", "c"), ("t", "d")))
        self.assertEqual(len(frozen_pairs(wide, ("r", "x", "y", "z"))), 877)
        self.assertIs(is_loss_paper(wide, ("r", "x", "y", "z"), loss_paper(wide, ("r", "x", "y", "z"))), True)

    def test_judges_accept_every_value(self):
        for value in every_value():
            for given in (value, ("loss", value, ("s", 1), (1,)), ("loss", Database(("t", 1)), value, (1,)), ("gain", value, ("s", 1), (1,)),
                          ("loss", Database(("t", 1)), ("s", 1), value), ("no loss", value), ("no loss", (value,)), (value, ()), ("lost", value),
                          ("kept", value), ("kept", (value,))):
                right = type(given) is tuple and len(given) == 4 and given[0] == "loss" and isinstance(given[1], Database) and (
                    looks_like_row(given[2]) and looks_like_integers(given[3]) and given[2] == ("s",) + given[3]
                    and given[2] not in given[1] and given[3] in ALONE(given[1]))
                self.assertIs(is_loss_paper(ALONE, ("s", "x"), given), right)
                self.assertIs(is_gain_paper(ALONE, ("t", "x"), given), False)
                base = given[1] if type(given) is tuple and len(given) == 2 and isinstance(given[0], str) and given[0] == "lost" else None
                lost = isinstance(base, Database) and (1,) in ALONE(base)
                self.assertIs(is_edit_paper(ALONE, ("put", ("s", 1)), (1,), given), lost)

    def test_errors(self):
        for function in (frozen_pairs, loss_paper, gain_paper, is_deaf, lambda question, pattern: is_loss_paper(question, pattern, None),
                         lambda question, pattern: is_gain_paper(question, pattern, None)):
            self.check_errors(function, QUESTIONS, PATTERNS)
        self.check_errors(effects, QUESTIONS, EDITS)
        answers = ((1,), wrong_answers(1), InvalidAnswer)
        self.check_errors(edit_paper, QUESTIONS, ROW_EDITS, answers)
        self.check_errors(lambda question, edit, answer: is_edit_paper(question, edit, answer, None), QUESTIONS, ROW_EDITS, answers)


if __name__ == "__main__":
    unittest.main()
