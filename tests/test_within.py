"""[11.2], [11.3] and stage 11 of the document: containment."""

import random
import unittest
from itertools import product

from firmrows.ask.questions import Question, make_rule
from firmrows.base.databases import Database
from firmrows.compare.frozen import frozen_rules
from firmrows.compare.within import comparison, is_within_paper, within_paper
from firmrows.errors import InvalidOperation, InvalidQuestion, TooMany
from firmrows.future.licences import Licence
from firmrows.papers.trees import depth
from tests import oracle
from tests.chance import deep_question, some_other_tree, some_small_question, some_variation
from tests.samples import ALONE, EITHER, GROWING, HUGE, ROWS, SPLIT, ErrorTests, every_value, wrong_objects

PLAIN = Question(make_rule(("x",), ("t", "x")))
TREE = ("ask", ("s", 0), ("match", 1, (0,)), ("match", 0, (0,)))
ONE = (PLAIN, wrong_objects(Question), InvalidQuestion)


def cases_of(question, other):
    """The frozen rules, with what their case trees are for."""
    frozen = oracle.frozen_rules(question.rules, oracle.integers_of(other.rules, ()))
    return [(rows, Licence(come="any", shut=away), head) for head, rows, away in frozen]


def is_right_paper(question, other, paper):
    """Whether a pair ("within", trees) is a paper, by trying all futures in the rows that are asked."""
    cases = cases_of(question, other)
    return len(paper[1]) == len(cases) and all(
        oracle.is_right(tree, other.rules, *case) for tree, case in zip(paper[1], cases))


class WithinTests(ErrorTests):
    def check(self, question, other):
        """Checks the paper of two questions; returns whether the first one is within the second one."""
        paper = within_paper(question, other)
        self.assertIs(is_within_paper(question, other, paper), True)
        if paper[0] == "within":
            self.assertTrue(is_right_paper(question, other, paper))
            for tree in paper[1]:
                self.assertLessEqual(depth(tree), 19)
            return True
        word, base, answer = paper
        self.assertEqual(word, "apart")
        self.assertIn(answer, oracle.answers(question.rules, base.rows))
        self.assertNotIn(answer, oracle.answers(other.rules, base.rows))
        return False

    def test_by_trial(self):
        source = random.Random(71)
        told = []
        for _ in range(500):
            question = some_small_question(source, source.randrange(3))
            other = source.choice((some_variation, lambda random, same: some_small_question(random, same.width)))(source, question)
            there, back = self.check(question, other), self.check(other, question)
            word = {(True, True): "equal", (True, False): "within", (False, True): "around", (False, False): "apart"}[there, back]
            self.assertEqual(comparison(question, other), word)
            told.append(word)
        for word in ("equal", "within", "around", "apart"):
            self.assertGreater(told.count(word), 30)

    def test_all_small_databases(self):
        source = random.Random(72)
        told = []
        while len(told) < 150:
            question = some_small_question(source, source.randrange(2))
            other = some_variation(source, question)
            tables = oracle.tables_of(question.rules + other.rules)
            integers = oracle.integers_of(question.rules + other.rules, ())
            integers = integers[:2] + [50]
            if len(oracle.all_rows(tables, integers)) > 9:
                continue
            is_within = within_paper(question, other)[0] == "within"
            told.append(is_within)
            lost = [rows for rows in oracle.small_databases(tables, integers, 9)
                    if not set(oracle.answers(question.rules, rows)) <= set(oracle.answers(other.rules, rows))]
            self.assertFalse(is_within and lost, (question.rules, other.rules, lost[:1]))
        self.assertGreater(min(told.count(True), told.count(False)), 20)

    def test_papers_with_something_otherwise_by_trial(self):
        source = random.Random(73)
        told = []
        for _ in range(400):
            question = some_small_question(source, source.randrange(2))
            other = some_variation(source, question)
            paper = within_paper(question, other)
            if paper[0] != "within" or not paper[1]:
                continue
            trees, cases = paper[1], cases_of(question, other)
            rows = oracle.all_rows(oracle.tables_of(question.rules + other.rules), [0, 1, 5]) + [("b",)]
            for _ in range(4):
                at = source.randrange(len(trees))
                leaves = [("match", way[0], way[1]) for way in oracle.ways_to(other.rules, cases[at][2], [0, 1])] + [("match", 0, ())]
                tree = some_other_tree(source, trees[at], rows, leaves)
                value = ("within", trees[:at] + (tree,) + trees[at + 1:])
                expected = is_right_paper(question, other, value)
                told.append(expected)
                self.assertIs(is_within_paper(question, other, value), expected)
            # A tree left out, put in, or exchanged.
            self.assertIs(is_within_paper(question, other, ("within", trees[:at] + trees[at + 1:])), False)
            self.assertIs(is_within_paper(question, other, ("within", trees[:at] + trees[at:at + 1] + trees[at:])), False)
            turned = ("within", trees[::-1])
            self.assertIs(is_within_paper(question, other, turned), is_right_paper(question, other, turned))
        self.assertGreater(min(told.count(True), told.count(False)), 50)

    def test_apart_papers_by_trial(self):
        source = random.Random(74)
        told = []
        for _ in range(500):
            question = some_small_question(source, source.randrange(2))
            other = some_variation(source, question)
            paper = within_paper(question, other)
            base, answer = paper[1:] if paper[0] == "apart" else (ROWS, (0,) * question.width)
            rows = oracle.all_rows(oracle.tables_of(question.rules + other.rules), [0, 1]) + [("b",)]
            for _ in range(4):
                later = base ^ Database(*source.sample(rows, source.randrange(min(3, len(rows)))))
                given = source.choice((answer, answer, tuple(source.randrange(2) for _ in answer)))
                expected = given in oracle.answers(question.rules, later.rows) and given not in oracle.answers(other.rules, later.rows)
                told.append(expected)
                self.assertIs(is_within_paper(question, other, ("apart", later, given)), expected)
        self.assertGreater(min(told.count(True), told.count(False)), 100)

    def test_laws(self):
        source = random.Random(75)
        chains = joined = 0
        for _ in range(250):
            one = some_small_question(source, source.randrange(2))
            two, three = some_variation(source, one), some_variation(source, one)
            self.assertEqual(comparison(one, one), "equal")
            is_within = lambda question, other: within_paper(question, other)[0] == "within"
            if is_within(one, two) and is_within(two, three):
                self.assertTrue(is_within(one, three))
                chains += 1
            if len({*two.rules, *three.rules}) <= 8:
                both = two | three
                self.assertTrue(is_within(two, both) and is_within(three, both))
                self.assertEqual(is_within(both, one), is_within(two, one) and is_within(three, one))
                joined += is_within(both, one)
        self.assertGreater(min(chains, joined), 30)

    def test_words(self):
        self.assertEqual([comparison(SPLIT, PLAIN), comparison(PLAIN, SPLIT)], ["equal", "equal"])
        self.assertEqual([comparison(ALONE, PLAIN), comparison(PLAIN, ALONE)], ["within", "around"])
        other = Question(make_rule(("x",), ("s", "x")))
        self.assertEqual([comparison(other, PLAIN), comparison(other, ALONE)], ["apart", "apart"])
        self.assertEqual(comparison(EITHER, Question(make_rule(()))), "within")
        renamed = Question(make_rule(("y",), ("t", "y"), barred=(("s", "y"),)))
        self.assertEqual(comparison(ALONE, renamed), "equal")

    def test_no_rule_is_within_one_rule(self):
        # [0.20]: all answers of the first one are answers of the second one, but no rule of that one has all of them.
        self.assertEqual(within_paper(PLAIN, SPLIT), ("within", (TREE,)))
        for index in (0, 1):
            self.assertEqual(within_paper(PLAIN, SPLIT.without_rule(index))[0], "apart")

    def test_questions_without_rules(self):
        none = Question(width=1)
        self.assertEqual(within_paper(none, PLAIN), ("within", ()))
        self.assertEqual(within_paper(none, none), ("within", ()))
        self.assertEqual(comparison(none, none), "equal")
        self.assertEqual([comparison(none, PLAIN), comparison(PLAIN, none)], ["within", "around"])
        self.assertEqual(within_paper(PLAIN, none), ("apart", Database(("t", 0)), (0,)))
        never = Question(make_rule(("x",), ("t", "x"), barred=(("t", "x"),)))
        self.assertEqual([comparison(none, never), within_paper(never, none)], ["equal", ("within", ())])
        self.assertIs(is_within_paper(none, PLAIN, ("within", (TREE,))), False)
        self.assertIs(is_within_paper(none, PLAIN, ("apart", ROWS, (1,))), False)

    def test_named_integers_of_both_questions(self):
        # Only with the integer 7 of the second question the first one has an answer that it lacks.
        other = Question(make_rule(("x",), ("t", "x"), unlike=(("x", 7),)))
        self.assertEqual(comparison(PLAIN, other), "around")
        paper = within_paper(PLAIN, other)
        self.assertEqual(paper, ("apart", Database(("t", 7)), (7,)))
        both = other.with_rule(make_rule((7,), ("t", 7)))
        self.assertEqual(comparison(PLAIN, both), "equal")
        self.assertEqual(len(within_paper(PLAIN, both)[1]), 2)
        self.assertIs(is_within_paper(PLAIN, both, ("within", (("match", 0, (0,)),))), False)
        self.assertIs(is_within_paper(PLAIN, both, ("within", (("match", 0, (0,)), ("match", 1, ())))), True)
        self.assertIs(is_within_paper(PLAIN, both, ("within", (("match", 1, ()), ("match", 0, (0,))))), False)

    def test_papers_that_are_accepted(self):
        vain = ("ask", ("b", HUGE), TREE, TREE)
        for value, expected in (
                (("within", (TREE,)), True), (("within", (vain,)), True), (("within", (("ask", ("t", 0), TREE, ("match", 9, ())),)), True),
                (("within", (("ask", ("t", 0), ("match", 9, ()), TREE),)), False), (("within", ()), False), (("within", (TREE, TREE)), False),
                (("within", [TREE]), False), (["within", (TREE,)], False), (("within", TREE), False), (("within", (TREE[2],)), False),
                (("within", (("match", 0, (0,)),)), False), (("within", (("ask", ("s", 0), TREE[3], TREE[2]),)), False), (("within",), False),
                (("firm", (TREE,)), False), (("within", (TREE,), ()), False), (("apart", ROWS, (1,)), False), ((), False),
                (("equal", (TREE,)), False), (("early", (TREE,)), False)):
            self.assertIs(is_within_paper(PLAIN, SPLIT, value), expected, value)

    def test_shut_rows_are_known(self):
        # The rows that the first question bars need not be asked.
        self.assertEqual(within_paper(ALONE, PLAIN), ("within", (("match", 0, (0,)),)))
        self.assertEqual(within_paper(ALONE, SPLIT), ("within", (("match", 0, (0,)),)))
        self.assertIs(is_within_paper(ALONE, SPLIT, ("within", (TREE,))), True)
        self.assertIs(is_within_paper(PLAIN, SPLIT, ("within", (("match", 0, (0,)),))), False)

    def test_apart_papers(self):
        great = Database(*[("t", number) for number in range(100)])
        for base, answer, expected in (
                (Database(("t", 3), ("s", 3)), (3,), True), (Database(("t", 3), ("s", 3)), (4,), False), (Database(("t", 3)), (3,), False),
                (Database(("s", 3)), (3,), False), (Database(("t", 3), ("s", 3), ("b",)), (3,), True), (great.with_rows(("s", 99)), (99,), True),
                (great, (99,), False), (ROWS, (2,), True), (ROWS, (1,), False), (ROWS, (True,), False), (ROWS, [2], False), (ROWS, (2, 2), False),
                (ROWS, (), False), (ROWS, None, False), (ROWS.rows, (2,), False), (None, (2,), False)):
            self.assertIs(is_within_paper(PLAIN, ALONE, ("apart", base, answer)), expected)
        self.assertIs(is_within_paper(PLAIN, ALONE, ("apart", ROWS, (2,), ())), False)
        self.assertIs(is_within_paper(PLAIN, ALONE, ("Apart", ROWS, (2,))), False)

    def test_depth_of_twenty_and_twenty_one(self):
        tree = ("match", 0, (0,))
        for number in range(21):
            self.assertIs(is_within_paper(PLAIN, PLAIN, ("within", (tree,))), True)
            tree = ("ask", ("b", number), ("match", 0, (0,)), tree)
        self.assertIs(is_within_paper(PLAIN, PLAIN, ("within", (tree,))), False)

    def test_cycles(self):
        # A cycle of two colours: some two neighbours have one colour exactly if its length is odd.
        rules = [make_rule((), ("e", "x", "y"), ("c", "x"), ("c", "y")), make_rule((), ("e", "x", "y"), barred=(("c", "x"), ("c", "y")))]
        for names, word in (("abc", "within"), ("abcd", "apart")):
            edges = [("e", one, other) for one, other in zip(names, names[1:] + names[0])]
            unlike = tuple(zip(names, names[1:] + names[0]))
            self.assertEqual(within_paper(Question(make_rule((), *edges, unlike=unlike)), Question(*rules))[0], word)
            self.check(Question(make_rule((), *edges)), Question(*rules))

    def test_too_many_open_rows(self):
        wanted = (("t", "x"), ("t", "y"), ("t", "z"))
        question = Question(make_rule((), *wanted, ("t", "w"), unlike=(("x", "y"), ("y", "z"), ("z", "w"), ("x", "w"))))
        other = Question(make_rule((), *wanted, barred=(("u", "x", "y", "z"),)))
        for function in (within_paper, comparison):
            try:
                function(question, other)
            except TooMany as error:
                self.assertEqual(error.limit, 16)
        rows = [("t", number) for number in range(4)]
        base = Database(*rows, *[("u",) + three for three in product(range(4), repeat=3)])
        self.assertIs(is_within_paper(question, other, ("apart", base, ())), True)
        self.assertIs(is_within_paper(question, other, ("apart", base.without_rows(("u", 3, 1, 2)), ())), False)
        self.assertIs(is_within_paper(question, other, ("within", (("match", 0, (0, 1, 2)),))), False)

    def test_many_open_rows(self):
        # Papers are right also where the search for them came near its end.
        source = random.Random(91)
        told = []
        for _ in range(150):
            one, other = deep_question(source), deep_question(source)
            try:
                paper = within_paper(one, other)
            except TooMany as error:
                self.assertEqual(error.limit, 16)
                told.append("many")
                continue
            told.append(paper[0])
            self.assertIs(is_within_paper(one, other, paper), True)
            try:
                self.assertEqual(comparison(one, other) in ("equal", "within"), paper[0] == "within")
            except TooMany as error:
                self.assertEqual(error.limit, 16)
        self.assertGreater(min(told.count("apart"), told.count("within")), 3)

    def test_a_deep_tree(self):
        question = Question(make_rule((), ("t", 0), ("t", 1), ("t", 2), barred=(("u", 0, 1, 2),)))
        other = Question(
            make_rule((), ("t", "x"), ("t", "y"), barred=(("r", "y", "x"), ("s", "x"))),
            make_rule((), ("t", "x"), ("t", "y"), ("t", "z"), ("t", "w"), barred=(("q", "z", "w"), ("q", "x", "w"), ("q", "z", "z")),
                      unlike=(("z", 0),)), make_rule((), ("t", 0), ("t", 1)))
        paper = within_paper(question, other)
        self.assertEqual(paper[0], "within")
        self.assertIs(is_within_paper(question, other, paper), True)
        less = Question(*other.rules[:2])
        try:
            paper = within_paper(question, less)
            self.assertEqual(paper[0], "apart")
            self.assertIs(is_within_paper(question, less, paper), True)
        except TooMany as error:
            self.assertEqual(error.limit, 16)

    def test_too_many_ways(self):
        four = (("t", "a"), ("t", "b"), ("t", "c"), ("t", "d"))
        many = Question(*[make_rule((), *[("s", 4 * at + number) for number in range(4)]) for at in range(7)], make_rule((), *four))
        for function in (within_paper, comparison):
            with self.assertRaises(TooMany) as caught:
                function(many, EITHER)
            self.assertEqual(caught.exception.limit, 2000)
        self.assertEqual(within_paper(EITHER, many)[0], "apart")
        self.assertIs(is_within_paper(many, EITHER, ("apart", Database(("a",), ("b",), ("t", 1)), ())), True)
        self.assertIs(is_within_paper(many, EITHER, ("within", (("match", 0, ()),) * 1000)), False)
        self.assertIs(is_within_paper(many, many, ("within", ())), False)
        # Rules without a frozen rule are not too many.
        never = Question(make_rule((), *four, barred=(("t", "d"),)))
        self.assertEqual(within_paper(never, many), ("within", ()))

    def test_two_thousand_ways(self):
        rule = make_rule((), ("u", "a", "b", "c"), ("v", "b", "c", "d"), ("t", 0), ("t", 1))
        question = Question(rule, make_rule((), ("t", 2), ("t", 3), ("t", 4)))
        self.assertEqual(len(frozen_rules(question)), 1541)
        paper = within_paper(question, question)
        self.assertIs(is_within_paper(question, question, paper), True)
        self.assertEqual(len(paper[1]), 1541)
        self.assertEqual(comparison(question, question), "equal")
        self.assertIs(is_within_paper(question, question, ("within", paper[1][:-1])), False)

    def test_every_value(self):
        for value in every_value():
            for paper in (value, ("within", value), ("within", (value,)), (value, (TREE,)), ("apart", value, (2,)), ("apart", ROWS, value),
                          (value, ROWS, (2,))):
                self.assertIs(is_within_paper(PLAIN, SPLIT, paper), False)
            expected = isinstance(value, Database) and value == ROWS
            self.assertIs(is_within_paper(PLAIN, ALONE, ("apart", value, (2,))), expected)

    def test_errors(self):
        for function in (within_paper, comparison, lambda one, other: is_within_paper(one, other, None)):
            self.check_errors(function, ONE, ONE)
            for width in (0, 2, 3):
                self.assert_error(InvalidOperation, function, [PLAIN, Question(width=width)])
                self.assert_error(InvalidOperation, function, [Question(width=width), PLAIN])
        for value in every_value():
            self.assert_error(InvalidOperation, is_within_paper, [PLAIN, EITHER, value])
            self.assert_error(InvalidQuestion, is_within_paper, [PLAIN, GROWING, value])


if __name__ == "__main__":
    unittest.main()
