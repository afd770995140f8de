"""[0.15], [0.17], [0.19] and stage 9 of the document: answers that are out."""

import random
import unittest

from firmrows.ask.questions import Question, make_rule
from firmrows.base.databases import Database
from firmrows.errors import TooMany
from firmrows.future.futures import is_future
from firmrows.future.licences import Licence
from firmrows.papers.bars import is_bar_tree, is_bars
from firmrows.papers.firm import is_firm_paper
from firmrows.papers.out import can_be, is_maker, is_out_paper, out_paper, status, statuses
from tests import oracle
from tests.chance import some_bar_case, some_case, some_pattern
from tests.samples import ALONE, CASE, EITHER, GROWING, HUGE, ROWS, SPLIT, ErrorTests, every_value

NONE = ("none",)
LOOSE = Licence(come="any", go="any")
BOTH = Licence(come=(("a",), ("b",)))


def depth_of(tree):
    return 0 if tree[0] != "is" else 1 + max([depth_of(below) for _, below in tree[2]] + [depth_of(tree[3])])


class OutTests(ErrorTests):
    def check_case(self, question, base, licence, answer):
        """All that the plain search says of one case; returns the paper, or None."""
        rules, rows = question.rules, base.rows
        told = (rules, rows, licence.come, licence.go, licence.shut, licence.kept, answer)
        expected = oracle.can_be(rules, rows, licence, answer)
        try:
            paper = out_paper(question, base, licence, answer)
        except TooMany:
            known = oracle.integers_of(rules, rows, answer, oracle.terms_of_licence(licence))
            self.assertTrue([rule for rule in rules if (len(known) + 4) ** len(oracle.variables(rule)) > 20000], told)
            return None
        self.assertEqual(paper[0], "made" if expected else "out", told)
        self.assertIs(is_out_paper(question, base, licence, answer, paper), True, told)
        self.assertIs(can_be(question, base, licence, answer), expected, told)
        if expected:
            self.assertIs(is_future(base, licence, paper[1]), True, told)
            self.assertIn(answer, oracle.answers(rules, paper[1].rows), told)
            self.assertIs(is_maker(question, base, licence, answer, paper[1]), True, told)
        else:
            self.assertEqual(len(paper[1]), len(question))
            for index, tree in enumerate(paper[1]):
                self.assertTrue(oracle.is_right_bars(tree, rules[index], rows, licence, answer), told)
                self.assertIs(is_bar_tree(question, base, licence, answer, index, tree), True, told)
        return paper

    def check_word(self, word, question, base, licence):
        """The word of the paper of the answer (), which is one."""
        paper = out_paper(question, base, licence, ())
        self.assertEqual(paper[0], word)
        self.assertIs(is_out_paper(question, base, licence, (), paper), True)
        self.assertIs(can_be(question, base, licence, ()), word == "made")

    def test_by_trial(self):
        source = random.Random(41)
        made, depths = 0, []
        for number in range(4000):
            paper = self.check_case(*(some_case if number % 3 == 0 else some_bar_case)(source))
            if paper is not None and paper[0] == "out":
                depths.extend([depth_of(tree) for tree in paper[1]])
            else:
                made += 1
        self.assertGreater(made, 500)
        for many, least in ((0, 500), (1, 40), (2, 10)):
            self.assertGreater(depths.count(many), least)

    def test_firm_answers_have_no_bar_trees(self):
        source = random.Random(42)
        for _ in range(400):
            question, base, licence, answer = some_case(source)
            if base and answer in question(base):
                self.assertIs(is_maker(question, base, licence, answer, base), True)
                self.assertIs(is_out_paper(question, base, licence, answer, ("out", (NONE,) * len(question))), False)
                self.assertIs(can_be(question, base, licence, answer), True)

    def test_status_by_trial(self):
        source = random.Random(43)
        told = []
        for _ in range(1500):
            question, base, licence, answer = some_case(source)
            rules, rows = question.rules, base.rows
            opened = oracle.open_rows(rules, rows, licence, answer)
            if len(opened) > 10:
                continue
            expected = "open" if oracle.can_be(rules, rows, licence, answer) else "out"
            if oracle.is_firm(rules, rows, licence, answer, opened):
                expected = "firm"
            self.assertEqual(status(question, base, licence, answer), expected)
            told.append(expected)
        for word in ("firm", "out", "open"):
            self.assertGreater(told.count(word), 100)

    def test_statuses_by_trial(self):
        source = random.Random(44)
        for _ in range(400):
            question, base, licence, _ = some_case(source)
            try:
                found = statuses(question, base, licence)
            except TooMany:
                continue
            self.assertEqual(list(found), list(oracle.answers(question.rules, base.rows)))
            for answer in found:
                self.assertEqual(found[answer], status(question, base, licence, answer))
                self.assertIn(found[answer], ("firm", "open"))

    def test_what_is_firm_or_out_stays_so(self):
        # [0.19]: whatever comes and goes by the licence, and whatever is sealed.
        source = random.Random(45)
        told = []
        for _ in range(600):
            question, base, licence, answer = some_case(source)
            try:
                word = status(question, base, licence, answer)
                rows = oracle.all_rows(oracle.tables_of(question.rules), [0, 1, 7])
                for _ in range(4):
                    able = [row for row in rows if oracle.can_change(set(base.rows), licence, row)]
                    base = base ^ Database(*source.sample(able, min(len(able), source.randrange(3))))
                    if source.random() < 0.5:
                        licence = licence.sealed(some_pattern(source, ("x", "y", 0, 1)), come=source.random() < 0.6)
                    later = status(question, base, licence, answer)
                    self.assertTrue(word == "open" or later == word)
                    told.append((word, later))
                    word = later
            except TooMany:
                continue
        for pair in (("firm", "firm"), ("out", "out"), ("open", "firm"), ("open", "out")):
            self.assertGreater(told.count(pair), 10)

    def test_papers_with_something_otherwise(self):
        known = GROWING.sealed(("t", "x"))
        right = (("never", 0), ("never", 0))
        check = lambda value: is_out_paper(SPLIT, ROWS, known, (3,), value)
        self.assertIs(check(("out", right)), True)
        self.assertIs(check(("out", (("is", "x", ((3, ("never", 0)),), NONE), right[0]))), True)
        for value in (("out", right[:1]), ("out", right + right[:1]), ("out", ()), ("out", list(right)), ("out", right[0]), ("made", right),
                      ("Out", right), ("is", right), ("firm", right), ["out", right], ("out",), ("out", right, right), ("out", (NONE, right[0])),
                      ("out", (right[0], NONE)), ("out", (right[0], None)), (right,), right, ("made", ROWS), ("out", ROWS), ("made", None)):
            self.assertIs(check(value), False, value)
        self.assertIs(is_out_paper(SPLIT, ROWS, known, (1,), ("out", right)), False)
        self.assertIs(is_out_paper(Question(width=1), ROWS, known, (1,), ("out", ())), True)
        self.assertEqual(out_paper(Question(width=1), ROWS, known, (1,)), ("out", ()))

    def test_papers_of_mixed_trees(self):
        rules = [make_rule((), ("t", "x"), barred=(("t", "x"),)), make_rule((), ("s", "x"), unlike=(("x", "x"),))]
        trees = (("both", 0, 0), ("pair", 0))
        question = Question(*rules)
        self.assertIs(is_out_paper(question, ROWS, LOOSE, (), ("out", trees)), True)
        self.assertIs(is_out_paper(question, ROWS, LOOSE, (), ("out", (trees[1], trees[0]))), False)
        self.assertIs(is_out_paper(question.without_rule(1), ROWS, LOOSE, (), ("out", trees[:1])), True)
        self.assertIs(is_out_paper(question.without_rule(1), ROWS, LOOSE, (), ("out", trees[1:])), False)

    def test_makers_with_new_integers(self):
        question = Question(make_rule((), ("t", "x"), ("t", "y"), barred=(("s", "x"),), unlike=(("x", "y"), ("x", 2), ("x", 1))))
        licence = GROWING.sealed(("t", 0))
        word, maker = out_paper(question, ROWS, licence, ())
        self.assertEqual(word, "made")
        self.assertIs(is_maker(question, ROWS, licence, (), maker), True)
        self.assertGreater(len(maker.numbers), 2)
        self.assertIs(is_maker(question, ROWS, licence, (), ROWS.with_rows(("t", HUGE))), True)
        self.assertIs(is_maker(question, ROWS, licence, (), ROWS.with_rows(("t", 0))), False)
        self.assertIs(is_maker(question, ROWS, licence, (), ROWS), False)
        self.assertIs(can_be(question, ROWS, Licence(come=(("t", 0), ("t", "x")), shut=(("t", "x"),)), ()), False)
        self.assertEqual(status(question, ROWS, licence, ()), "open")

    def test_integers_of_the_licence_alone(self):
        question = Question(make_rule((), ("t", "x"), unlike=(("x", 1), ("x", 2))))
        for come, expected in (((("t", 77),), True), ((("t", 1), ("t", 2)), False), ((("t", "a"),), True), ((("s", 77),), False)):
            self.assertIs(can_be(question, ROWS, Licence(come=come), ()), expected)
        self.assertEqual(out_paper(question, ROWS, Licence(come=(("t", 77),)), ()), ("made", ROWS.with_rows(("t", 77))))
        three = Question(make_rule((), ("r", "x", "y"), ("r", "y", "z"), unlike=(("x", "y"), ("y", "z"))))
        self.assertIs(can_be(three, ROWS, Licence(come=(("r", 50, "a"), ("r", "a", 60))), ()), True)
        self.assertIs(can_be(three, ROWS, Licence(come=(("r", 50, "a"), ("r", "a", "a"))), ()), False)
        self.assertIs(can_be(three, ROWS, Licence(come=(("r", 50, "a"), ("r", 60, "a"))), ()), True)

    def test_rows_that_go(self):
        self.assertIs(can_be(ALONE, ROWS, GROWING, (2,)), False)
        self.assertEqual(out_paper(ALONE, ROWS, LOOSE, (2,)), ("made", ROWS.without_rows(("s", 2))))
        self.assertEqual(status(ALONE, ROWS, LOOSE, (2,)), "open")
        self.assertEqual(status(ALONE, ROWS, LOOSE.sealed(("s", 2)), (2,)), "out")
        self.assertEqual(status(EITHER, Database(("a",), ("b",)), Licence(go=(("a",), ("b",))), ()), "open")
        self.assertEqual(status(EITHER, Database(), BOTH, ()), "open")
        self.assertEqual(status(EITHER, Database(), BOTH.sealed(("a",)), ()), "firm")
        self.assertEqual(status(EITHER, Database(("a",), ("b",)), BOTH, ()), "out")

    def test_makers_that_are_accepted(self):
        great = Database(*[("b", number) for number in range(100)])
        for value, expected in (
                (ROWS.with_rows(("t", 3)), True), (ROWS.with_rows(("t", 3), ("b",)), True), (ROWS.with_rows(("t", 3), ("s", 3)), False),
                (ROWS, False), (Database(("t", 3)), False), (great | ROWS.with_rows(("t", 3)), True), (great | ROWS, False),
                (ROWS.with_rows(("t", 3)).rows, False), (None, False)):
            self.assertIs(is_maker(ALONE, ROWS, GROWING, (3,), value), expected)
            self.assertIs(is_out_paper(ALONE, ROWS, GROWING, (3,), ("made", value)), expected)
            self.assertIs(is_out_paper(ALONE, ROWS, GROWING, (3,), ("out", value)), False)
        self.assertIs(is_out_paper(ALONE, great | ROWS, GROWING, (3,), ("made", great | ROWS.with_rows(("t", 3)))), True)
        self.assertIs(is_maker(ALONE, great, GROWING.sealed(("t", "x")), (3,), great.with_rows(("t", 3))), False)

    def test_limits(self):
        # n + 4 = 11 and four variables: 14641 ways, so no error.
        base = Database(*[("r", one, other) for one in range(3) for other in range(3)], ("t", 3), ("t", 4), ("t", 5), ("t", 6))
        rule = make_rule((), ("t", "a"), ("t", "b"), ("t", "c"), ("r", "c", "d"))
        for licence, word in ((Licence(), "out"), (Licence(come=(("r", 0, "x"), ("r", "x", "x"))), "made"),
                              (Licence(come=(("r", 0, "x"), ("r", 1, 2))), "out")):
            self.check_word(word, Question(rule), base, licence)
        # Three variables and nineteen integers, two and 130, one and some more.
        twenty = Database(*[("t", number) for number in range(19)])
        come = tuple(("r", number, number + 1) for number in range(100, 210))
        for rule in (make_rule((), ("t", "a"), ("t", "b"), ("t", "c"), ("u", "a", "b", "c")),
                     make_rule((), ("t", "a"), ("r", "a", "b"), ("r", "b", "a")), make_rule((), ("r", "a", "b"), ("r", "b", "a"))):
            self.check_word("out", Question(rule), twenty, Licence(come=come))
        self.check_word("made", Question(rule), twenty, Licence(come=come + (("r", "x", 105), ("r", "y", "y"))))
        many = Licence(come=tuple(("s", number) for number in range(1000)))
        question = Question(make_rule((), ("s", "x"), barred=(("t", "x"),), unlike=(("x", 4000),)))
        self.assertEqual(out_paper(question, twenty, many, ())[0], "made")
        paper = out_paper(question, twenty, Licence(come=many.come[:19]), ())
        self.assertEqual(paper[0], "out")
        self.assertIs(is_out_paper(question, twenty, Licence(come=many.come[:19]), (), paper), True)
        self.assertIs(is_bars(paper[1][0]), True)

    def test_beyond_the_limits(self):
        # More than 20000 ways: an error or a paper.
        base = Database(*[("t", number) for number in range(60)])
        rule = make_rule((), ("t", "a"), ("t", "b"), ("t", "c"), ("u", "a", "b", "c"))
        licence = Licence(come=(("u", 1, 2, 99), ("u", "x", "x", 99)))
        try:
            self.assertIs(is_out_paper(Question(rule), base, licence, (), out_paper(Question(rule), base, licence, ())), True)
        except TooMany as error:
            self.assertEqual(error.limit, 20000)

    def test_far_beyond_the_limits(self):
        rows = [(one, two, three) for one in range(32) for two in range(32) for three in range(32)]
        come = tuple((("u",) if sum(row) & 1 else ("v",)) + row for row in rows)
        question = Question(make_rule((), ("u", "x", "y", "z"), ("v", "x", "y", "z")))
        with self.assertRaises(TooMany) as caught:
            out_paper(question, Database(), Licence(come=come), ())
        self.assertEqual(caught.exception.limit, 20000)
        # With 23 integers it is 19683 ways, so it is answered.
        few = [row for row in come if max(row[1:]) < 23]
        self.check_word("out", question, Database(), Licence(come=tuple(few)))
        # So is a rule of one variable.
        single = Question(make_rule((), ("u", "x"), ("v", "x")))
        many = Licence(come=tuple(("u", number) for number in range(9000)) + tuple(("v", number) for number in range(9000, 19990)))
        paper = out_paper(single, Database(), many, ())
        self.assertEqual(paper[0], "out")
        self.assertIs(is_out_paper(single, Database(), many, (), paper), True)
        # 137 integers and two variables.
        pairs = [(one, other) for one in range(137) for other in range(137)]
        double = Question(make_rule((), ("u", "x", "y"), ("v", "y", "x")))
        many = Licence(come=tuple(((("u",) if one < other else ("v",)) + (one, other)) for one, other in pairs if one != other))
        self.check_word("made", double, Database(), many)
        self.check_word("out", double.with_rule(make_rule((), ("u", "x", "y"), ("v", "x", "y"))).without_rule(0), Database(), many)

    def test_great_integers(self):
        rows = Database(("t", HUGE), ("s", HUGE), ("t", -HUGE))
        self.assertEqual(out_paper(ALONE, rows, GROWING, (HUGE,)), ("out", (("stays", 0),)))
        self.assertEqual(statuses(SPLIT, rows, GROWING), {(-HUGE,): "firm", (HUGE,): "firm"})
        self.assertEqual(list(statuses(SPLIT, rows, GROWING)), [(-HUGE,), (HUGE,)])

    def test_firm_and_made_have_nothing_in_common_with_the_other_words(self):
        self.assertIs(is_firm_paper(ALONE, ROWS, GROWING, (2,), ("out", (("stays", 0),))), False)
        self.assertIs(is_out_paper(ALONE, ROWS, GROWING, (2,), ("out", (("stays", 0),))), True)
        self.assertIs(is_out_paper(ALONE, ROWS, GROWING, (2,), ("spoiled", ROWS)), False)

    def test_every_value(self):
        for value in every_value():
            self.assertIs(is_maker(ALONE, ROWS, GROWING, (1,), value), isinstance(value, Database) and value == ROWS)
            for paper in (value, ("out", value), ("out", (value,)), (value, (("stays", 0),))):
                expected = type(paper) is tuple and paper == ("out", (("stays", 0),))
                self.assertIs(is_out_paper(ALONE, ROWS, GROWING, (2,), paper), expected)
            expected = isinstance(value, Database) and value == ROWS
            self.assertIs(is_out_paper(ALONE, ROWS, GROWING, (1,), ("made", value)), expected)

    def test_errors(self):
        for function in (out_paper, can_be, status):
            self.check_errors(function, *CASE)
        self.check_errors(statuses, *CASE[:3])
        # Also where there are no answers to look at.
        self.check_errors(statuses, CASE[0], (Database(),) + CASE[1][1:], CASE[2])
        for function in (is_out_paper, is_maker):
            self.check_errors(lambda *four: function(*four, None), *CASE)


if __name__ == "__main__":
    unittest.main()
