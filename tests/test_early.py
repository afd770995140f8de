"""[0.18], [14.1], [14.2] and stage 14 of the document: early questions."""

import random
import unittest
from itertools import product

from firmrows.ask.questions import Question, make_rule
from firmrows.base.databases import Database
from firmrows.early.early import early_paper, is_early, is_early_paper, kept_answers
from firmrows.compare.within import within_paper
from firmrows.errors import InvalidDatabase, InvalidQuestion, TooMany
from firmrows.future.licences import Licence
from firmrows.papers.firm import firm_answers
from firmrows.papers.trees import depth
from tests import oracle
from tests.chance import some_case, some_other_tree, some_small_question
from tests.samples import ALONE, EITHER, GROWING, HUGE, ROWS, SPLIT, ErrorTests, every_value, wrong_objects

PLAIN = Question(make_rule(("x",), ("t", "x")))
UNLIKE = Question(make_rule((), ("r", "x", "y"), unlike=(("x", "y"),)))
QUESTIONS = (SPLIT, wrong_objects(Question), InvalidQuestion)
DATABASES = (ROWS, wrong_objects(Database), InvalidDatabase)


def is_right_paper(question, paper):
    """Whether a pair ("early", trees) is a paper, by trying all futures in the rows that are asked."""
    frozen = oracle.frozen_rules(question.rules, ())
    return len(paper[1]) == len(frozen) and all(
        oracle.is_right(tree, question.rules, rows, GROWING, head) for tree, (head, rows, _) in zip(paper[1], frozen))


class EarlyTests(ErrorTests):
    def test_by_trial(self):
        source = random.Random(101)
        told = []
        for _ in range(800):
            question = some_small_question(source, source.randrange(3))
            paper = early_paper(question)
            told.append((paper[0], bool(question.rules and any(rule[2] for rule in question.rules))))
            self.assertIs(is_early(question), paper[0] == "early")
            self.assertIs(is_early_paper(question, paper), True)
            if paper[0] == "early":
                self.assertTrue(is_right_paper(question, paper))
                for tree in paper[1]:
                    self.assertLessEqual(depth(tree), 19)
            else:
                _, small, great, answer = paper
                self.assertTrue(set(small.rows) <= set(great.rows))
                self.assertIn(answer, oracle.answers(question.rules, small.rows))
                self.assertNotIn(answer, oracle.answers(question.rules, great.rows))
        for kind in (("early", True), ("early", False), ("late", True)):
            self.assertGreater(told.count(kind), 50)
        self.assertEqual(told.count(("late", False)), 0)

    def test_all_small_databases(self):
        # Each row that comes to each database of a few rows.
        source = random.Random(102)
        told = []
        while len(told) < 150:
            question = some_small_question(source, source.randrange(2))
            tables = oracle.tables_of(question.rules)
            integers = question.named[:2] + (50,)
            rows = oracle.all_rows(tables, integers)
            if len(rows) > 8 or not any(rule[2] for rule in question.rules):
                continue
            answers = {some: set(oracle.answers(question.rules, some)) for some in oracle.small_databases(tables, integers, 8)}
            lost = [(some, row) for some in answers for row in rows if not answers[some] <= answers[some | {row}]]
            told.append(is_early(question))
            self.assertFalse(is_early(question) and lost, (question.rules, lost[:1]))
        self.assertGreater(min(told.count(True), told.count(False)), 20)

    def test_papers_with_something_otherwise_by_trial(self):
        source = random.Random(103)
        told = []
        for _ in range(600):
            question = some_small_question(source, source.randrange(2))
            paper = early_paper(question)
            rows = oracle.all_rows(oracle.tables_of(question.rules), [0, 1, 5]) + [("b",)]
            if paper[0] == "early" and paper[1]:
                trees = paper[1]
                frozen = oracle.frozen_rules(question.rules, ())
                for _ in range(4):
                    at = source.randrange(len(trees))
                    leaves = [("match",) + way[:2] for way in oracle.ways_to(question.rules, frozen[at][0], [0, 1])] + [("match", 9, ())]
                    value = ("early", trees[:at] + (some_other_tree(source, trees[at], rows, leaves),) + trees[at + 1:])
                    expected = is_right_paper(question, value)
                    told.append((True, expected))
                    self.assertIs(is_early_paper(question, value), expected)
                for value in (("early", trees[1:]), ("early", trees + trees[-1:]), ("late", trees), ("early", list(trees)), trees):
                    self.assertIs(is_early_paper(question, value), False)
            elif paper[0] == "late":
                _, small, great, answer = paper
                for _ in range(4):
                    more = great ^ Database(*source.sample(rows, source.randrange(min(3, len(rows)))))
                    less = small ^ Database(*source.sample(rows, source.randrange(2)))
                    given = source.choice((answer, answer, tuple(source.randrange(2) for _ in answer)))
                    expected = (set(less.rows) <= set(more.rows) and given in oracle.answers(question.rules, less.rows)
                                and given not in oracle.answers(question.rules, more.rows))
                    told.append((False, expected))
                    self.assertIs(is_early_paper(question, ("late", less, more, given)), expected)
        for kind in product((True, False), (True, False)):
            self.assertGreater(told.count(kind), 100)

    def test_words(self):
        for question, expected in (
                (SPLIT, True), (ALONE, False), (PLAIN, True), (EITHER, False), (UNLIKE, True), (Question(width=2), True),
                (Question(make_rule((), barred=(("a",),)), make_rule((), ("a",))), True),
                (Question(make_rule((), barred=(("t", 3),)), make_rule((), ("t", "x"))), True),
                (Question(make_rule((), barred=(("t", 3),)), make_rule((), ("t", "x"), unlike=(("x", 3),))), False),
                (Question(make_rule((), ("t", "x"), barred=(("t", "x"),))), True),
                (Question(make_rule((), ("r", "x", "y"), barred=(("r", "y", "x"),)), make_rule((), ("r", "x", "y"), ("r", "y", "x"))), True)):
            self.assertIs(is_early(question), expected)
            self.assertEqual(early_paper(question)[0], "early" if expected else "late")

    def test_papers(self):
        tree = ("ask", ("s", 0), ("match", 1, (0,)), ("match", 0, (0,)))
        self.assertEqual(early_paper(SPLIT), ("early", (("match", 1, (0,)), tree)))
        self.assertEqual(early_paper(ALONE), ("late", Database(("t", 0)), Database(("t", 0), ("s", 0)), (0,)))
        self.assertEqual(early_paper(Question(width=3)), ("early", ()))
        leaf = ("match", 1, (0,))
        vain = ("ask", ("b", HUGE), tree, tree)
        for trees, expected in (((leaf, tree), True), ((leaf, vain), True), ((tree, tree), True), ((tree, leaf), False), ((leaf, leaf), False),
                                ((leaf,), False), ((tree,), False), ((leaf, tree, tree), False), ((leaf, tree[3]), False),
                                ((leaf, ("ask", ("t", 0), tree, leaf)), True), ((leaf, ("ask", ("t", 0), leaf, tree)), False)):
            self.assertIs(is_early_paper(SPLIT, ("early", trees)), expected, trees)
        # Rows that the rule bars may come, too.
        self.assertIs(is_early_paper(ALONE, ("early", (("match", 0, (0,)),))), False)

    def test_late_papers(self):
        small, great = Database(("t", 1)), Database(("t", 1), ("s", 1))
        hundred = Database(*[("t", number) for number in range(100)])
        for value, expected in (
                (("late", small, great, (1,)), True), (("late", great, small, (1,)), False), (("late", small, small, (1,)), False),
                (("late", small, Database(("s", 1)), (1,)), False), (("late", small, great, (2,)), False), (("late", great, great, (1,)), False),
                (("late", hundred, hundred.with_rows(("s", 99)), (99,)), True), (("late", hundred, hundred.with_rows(("s", 99)), (98,)), False),
                (("late", small, great, (True,)), False), (("late", small, great, [1]), False), (("late", small, great, (1, 1)), False),
                (("late", small, great.rows, (1,)), False), (("late", small.rows, great, (1,)), False), (("late", small, great), False),
                (("late", small, great, (1,), ()), False), (("early", small, great, (1,)), False), (["late", small, great, (1,)], False),
                (("late", (small, great, (1,))), False), (("late", small, great.with_rows(("b",)), (1,)), True)):
            self.assertIs(is_early_paper(ALONE, value), expected)
        self.assertIs(is_early_paper(SPLIT, ("late", small, great, (1,))), False)

    def test_depth_of_twenty_and_twenty_one(self):
        tree = ("match", 0, (0,))
        for number in range(21):
            self.assertIs(is_early_paper(PLAIN, ("early", (tree,))), True)
            tree = ("ask", ("b", number), ("match", 0, (0,)), tree)
        self.assertIs(is_early_paper(PLAIN, ("early", (tree,))), False)

    def test_kept_answers_by_trial(self):
        source = random.Random(104)
        many = some_kept = 0
        for _ in range(1500):
            question, base, _, _ = some_case(source)
            answers = oracle.answers(question.rules, base.rows)
            opened = {answer: oracle.open_rows(question.rules, base.rows, GROWING, answer) for answer in answers}
            if any(len(found) > 10 for found in opened.values()):
                continue
            expected = tuple(answer for answer in answers if oracle.is_firm(question.rules, base.rows, GROWING, answer, opened[answer]))
            found = kept_answers(question, base)
            self.assertEqual(found, expected)
            self.assertEqual(found, firm_answers(question, base, GROWING))
            many += len(answers) - len(found)
            some_kept += len(found)
            # They stay kept when rows come.
            rows = oracle.all_rows(oracle.tables_of(question.rules), [0, 1, 5])
            later = base.with_rows(*source.sample(rows, source.randrange(min(4, len(rows) + 1))))
            try:
                self.assertTrue(set(found) <= set(kept_answers(question, later)))
            except TooMany as error:
                self.assertEqual(error.limit, 16)
        self.assertGreater(min(many, some_kept), 100)

    def test_kept_answers(self):
        self.assertEqual(kept_answers(SPLIT, ROWS), ((1,), (2,)))
        self.assertEqual(kept_answers(ALONE, ROWS), ())
        self.assertEqual(kept_answers(PLAIN, ROWS), ((1,), (2,)))
        self.assertEqual(kept_answers(EITHER, Database()), ())
        self.assertEqual(kept_answers(UNLIKE, Database(("r", 1, 1), ("r", 1, 2))), ((),))
        self.assertEqual(kept_answers(Question(width=1), ROWS), ())

    def test_all_answers_of_early_questions_are_kept(self):
        source = random.Random(105)
        many = 0
        for _ in range(1500):
            question, base, _, _ = some_case(source)
            if is_early(question):
                try:
                    self.assertEqual(kept_answers(question, base), question(base))
                    many += len(question(base))
                except TooMany as error:
                    self.assertEqual(error.limit, 16)
        self.assertGreater(many, 50)

    def test_early_questions_within(self):
        # [14.2]: the answers of an early question within a question are kept ones of that one.
        two = ALONE | Question(make_rule(("x",), ("s", "x")))
        part = Question(make_rule(("x",), ("s", "x")), make_rule(("x",), ("t", "x"), ("s", "x")))
        self.assertEqual([within_paper(part, two)[0], is_early(part), is_early(two)], ["within", True, True])
        late = ALONE | Question(make_rule(("x",), ("u", "x", "x")))
        part = Question(make_rule(("x",), ("u", "x", "x")))
        self.assertEqual([within_paper(part, late)[0], is_early(part), is_early(late)], ["within", True, False])
        base = ROWS.with_rows(("u", 5, 5), ("u", 1, 1), ("u", 3, 4))
        self.assertEqual(part(base), kept_answers(late, base))

    def test_limits(self):
        sixty = Database(*[("t", number) for number in range(30)], *[("s", number) for number in range(30, 60)])
        self.assertEqual(kept_answers(SPLIT, sixty), SPLIT(sixty))
        question = Question(make_rule((), ("t", "x"), barred=(("s", "x"),)), make_rule((), *[("s", number) for number in (1, 5, 9, 15)]))
        self.assertEqual(kept_answers(question, Database(*[("t", number) for number in range(16)])), ((),))
        rule = make_rule((), ("u", "a", "b", "c"), ("v", "b", "c", "d"), ("t", 0), ("t", 1))
        wide = Question(rule, make_rule((), ("t", 2), ("t", 3), ("t", 4)))
        paper = early_paper(wide)
        self.assertEqual([paper[0], len(paper[1])], ["early", 1541])
        self.assertIs(is_early_paper(wide, paper), True)
        self.assertIs(is_early_paper(wide, ("early", paper[1][1:])), False)

    def test_too_many(self):
        four = (("t", "a"), ("t", "b"), ("t", "c"), ("t", "d"))
        many = Question(make_rule((), *four), *[make_rule((), *[("t", 4 * at + number) for number in range(4)]) for at in range(7)])
        for function in (early_paper, is_early):
            with self.assertRaises(TooMany) as caught:
                function(many)
            self.assertEqual(caught.exception.limit, 2000)
        self.assertIs(is_early_paper(many, ("early", ())), False)
        self.assertIs(is_early_paper(many, ("early", (("match", 0, (0, 0, 0, 0)),) * 500)), False)
        self.assertIs(is_early_paper(many, ("late", ROWS, ROWS, ())), False)
        wanted = (("t", "x"), ("t", "y"), ("t", "z"))
        deep = Question(make_rule((), *wanted, barred=(("u", "x", "y", "z"),)), make_rule((), *wanted, ("t", "w"), unlike=(
            ("x", "y"), ("y", "z"), ("z", "w"), ("x", "w"))))
        try:
            self.assertIn(early_paper(deep)[0], ("early", "late"))
        except TooMany as error:
            self.assertEqual(error.limit, 16)
        seventeen = Database(*[("t", number) for number in range(17)])
        with self.assertRaises(TooMany) as caught:
            kept_answers(Question(make_rule((), ("t", "x"), barred=(("s", "x"),))), seventeen)
        self.assertEqual(caught.exception.limit, 16)

    def test_every_value(self):
        for value in every_value():
            for paper in (value, ("early", value), ("early", (value,)), (value, ()), ("late", value, ROWS, (1,)), ("late", ROWS, ROWS, value),
                          (value, ROWS, ROWS, (1,))):
                expected = type(paper) is tuple and paper == early_paper(ALONE)
                self.assertIs(is_early_paper(ALONE, paper), expected)
            great = isinstance(value, Database) and value == Database()
            self.assertIs(is_early_paper(ALONE, ("late", Database(("t", 1)), value, (1,))), False)
            self.assertIs(is_early_paper(EITHER, ("late", value, Database(("a",), ("b",)), ())), great or value == Database(("a",)))

    def test_errors(self):
        for function in (early_paper, is_early, lambda question: is_early_paper(question, None)):
            self.check_errors(function, QUESTIONS)
        self.check_errors(kept_answers, QUESTIONS, DATABASES)
        for value in every_value():
            self.assert_error(InvalidQuestion, is_early_paper, [Licence(), value])


if __name__ == "__main__":
    unittest.main()
