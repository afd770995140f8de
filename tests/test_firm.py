"""[7.1], [7.2], [0.15], [0.16], [0.19] and stage 7 of the document: firm answers."""

import random
import unittest
from itertools import combinations

from firmrows.ask.questions import Question, make_rule
from firmrows.base.databases import Database
from firmrows.errors import TooMany
from firmrows.future.futures import is_future
from firmrows.future.licences import Licence
from firmrows.papers.firm import firm_answers, firm_paper, is_firm_paper, is_spoiler, open_rows
from firmrows.papers.trees import depth, is_case_tree
from tests import oracle
from tests.chance import some_case, some_other_tree
from tests.samples import ALONE, CASE, EITHER, GROWING, HUGE, ROWS, SPLIT, ErrorTests, every_value

TREE = ("ask", ("s", 1), ("match", 1, (1,)), ("match", 0, (1,)))
BOTH = Licence(come=(("a",), ("b",)))
LOOSE = Licence(come="any", go="any")


def sixteen(many):
    """A question that asks whether a row of t is not in s, and a licence by which so many rows of s come."""
    return Question(make_rule((), ("t", "x"), barred=(("s", "x"),))), Database(*[("t", number) for number in range(many)])


class FirmTests(ErrorTests):
    def check_case(self, question, base, licence, answer):
        """All that the plain search says of one case; returns whether the answer is firm, and the open rows."""
        rules, rows = question.rules, base.rows
        told = (rules, rows, licence.come, licence.go, licence.shut, licence.kept, answer)
        able = oracle.changing_rows(rules, rows, licence, answer)
        if len(able) > 11:
            return None, None
        expected = oracle.open_rows(rules, rows, licence, answer)
        self.assertEqual(open_rows(question, base, licence, answer), expected, told)
        is_firm = oracle.is_firm(rules, rows, licence, answer, able)
        # [7.2]: the open rows are enough for a spoiler.
        self.assertEqual(oracle.is_firm(rules, rows, licence, answer, expected), is_firm, told)
        paper = firm_paper(question, base, licence, answer)
        self.assertEqual(paper[0], "firm" if is_firm else "spoiled", told)
        self.assertIs(is_firm_paper(question, base, licence, answer, paper), True, told)
        if is_firm:
            self.assertTrue(oracle.is_right(paper[1], rules, rows, licence, answer), told)
            self.assertIs(is_case_tree(question, base, licence, answer, paper[1]), True, told)
        else:
            self.assertIs(is_future(base, licence, paper[1]), True, told)
            self.assertNotIn(answer, oracle.answers(rules, paper[1].rows), told)
            self.assertIs(is_spoiler(question, base, licence, answer, paper[1]), True, told)
        return is_firm, paper

    def test_by_trial(self):
        source = random.Random(21)
        told = []
        for _ in range(3500):
            case = some_case(source)
            is_firm, paper = self.check_case(*case)
            if is_firm is not None:
                told.append((is_firm, is_firm and depth(paper[1]) > 0))
                if is_firm:
                    self.check_no_spoiler(source, *case)
        for kind, many in (((True, False), 100), ((True, True), 30), ((False, False), 500)):
            self.assertGreater(told.count(kind), many)

    def check_no_spoiler(self, source, question, base, licence, answer):
        """No future has not the answer, also none with rows of integers that stand nowhere else."""
        rows = oracle.all_rows(oracle.tables_of(question.rules), [0, 1, 70, HUGE])
        able = [row for row in rows if oracle.can_change(set(base.rows), licence, row)]
        for _ in range(3):
            later = base ^ Database(*source.sample(able, min(len(able), source.randrange(6))))
            self.assertIs(is_spoiler(question, base, licence, answer, later), False)
            self.assertIs(is_firm_paper(question, base, licence, answer, ("spoiled", later)), False)

    def test_accepted_papers_by_trial(self):
        source = random.Random(22)
        trees, spoilers = [], []
        for _ in range(1200):
            question, base, licence, answer = some_case(source)
            rows = oracle.all_rows(oracle.tables_of(question.rules), [0, 1, 70]) + [("b",)]
            leaves = [("match", way[0], way[1]) for way in oracle.ways_to(question.rules, answer, [0, 1])] + [("match", 0, ())]
            try:
                paper = firm_paper(question, base, licence, answer)
            except TooMany:
                continue
            tree = paper[1] if paper[0] == "firm" else source.choice(leaves)
            for _ in range(4):
                tree = some_other_tree(source, tree, rows, leaves)
                if depth(tree) < 6:
                    expected = oracle.is_right(tree, question.rules, base.rows, licence, answer)
                    trees.append(expected)
                    self.assertIs(is_firm_paper(question, base, licence, answer, ("firm", tree)), expected)
                later = base ^ Database(*source.sample(rows, min(len(rows), source.randrange(4))))
                able = all(oracle.can_change(set(base.rows), licence, row) for row in (later ^ base).rows)
                expected = able and answer not in oracle.answers(question.rules, later.rows)
                spoilers.append(expected)
                self.assertIs(is_spoiler(question, base, licence, answer, later), expected)
                self.assertIs(is_firm_paper(question, base, licence, answer, ("spoiled", later)), expected)
        for told in (trees, spoilers):
            self.assertGreater(told.count(True), 100)
            self.assertGreater(told.count(False), 100)

    def test_firm_answers_by_trial(self):
        source = random.Random(23)
        many = 0
        for _ in range(1000):
            question, base, licence, _ = some_case(source)
            rules, rows = question.rules, base.rows
            answers = oracle.answers(rules, rows)
            opened = {answer: oracle.open_rows(rules, rows, licence, answer) for answer in answers}
            if all(len(found) <= 10 for found in opened.values()):
                expected = tuple(answer for answer in answers if oracle.is_firm(rules, rows, licence, answer, opened[answer]))
                self.assertEqual(firm_answers(question, base, licence), expected)
                many += len(expected)
        self.assertGreater(many, 100)

    def test_open_rows(self):
        self.assertEqual(open_rows(SPLIT, ROWS, GROWING, (1,)), (("s", 1),))
        self.assertEqual(open_rows(SPLIT, ROWS, GROWING, (2,)), ())
        self.assertEqual(open_rows(SPLIT, ROWS, GROWING, (5,)), (("s", 5), ("t", 5)))
        self.assertEqual(open_rows(EITHER, Database(), BOTH, ()), (("a",), ("b",)))
        self.assertEqual(open_rows(EITHER, Database(), GROWING.sealed(("a",)), ()), (("b",),))
        self.assertEqual(open_rows(EITHER, Database(("a",)), BOTH, ()), (("b",),))
        self.assertEqual(open_rows(EITHER, Database(("a",)), Licence(go="any"), ()), (("a",),))
        self.assertEqual(open_rows(ALONE, ROWS, Licence(), (1,)), ())
        self.assertEqual(open_rows(Question(width=1), ROWS, LOOSE, (1,)), ())

    def test_integers_that_are_known(self):
        question = Question(make_rule((), ("t", "x"), unlike=(("x", 8),)))
        self.assertEqual(open_rows(question, Database(), GROWING, ()), ())
        self.assertEqual(open_rows(question, Database(("s", 4)), GROWING, ()), (("t", 4),))
        self.assertEqual(open_rows(question, Database(("s", 4)), Licence(come=(("t", 4), ("t", 5), ("t", 8))), ()), (("t", 4),))
        named = question.with_rule(make_rule((), ("v", 3, 9)))
        self.assertEqual(open_rows(named, Database(), Licence(come=(("t", "x"),)), ()), (("t", 3), ("t", 9)))
        answer = Question(make_rule(("y",), ("t", "x"), ("s", "y")))
        self.assertEqual(open_rows(answer, Database(("s", 6)), Licence(come=(("t", "x"),)), (6,)), (("t", 6),))
        self.assertEqual(open_rows(answer, Database(), GROWING, (6,)), (("s", 6), ("t", 6)))

    def test_what_is_no_chance(self):
        wanted_and_barred = Question(make_rule((), ("r", "x", "y"), barred=(("r", "y", "x"),)))
        base = Database(("b", 1, 2))
        self.assertEqual(open_rows(wanted_and_barred, base, GROWING, ()), (("r", 1, 2), ("r", 2, 1)))
        alike = Question(make_rule((), ("t", "x"), ("s", "y"), unlike=(("x", "y"),)))
        self.assertEqual(open_rows(alike, Database(("t", 1)), GROWING, ()), ())
        self.assertEqual(open_rows(alike, Database(("t", 1), ("b", 2)), GROWING, ()), (("s", 1), ("s", 2), ("t", 2)))
        self.assertEqual(open_rows(alike, Database(("t", 1), ("s", 1), ("b", 2)), GROWING.sealed(("t", "x")), ()), (("s", 2),))
        stuck = Question(make_rule((), ("t", 1), ("u", 1), barred=(("s", 1),)))
        self.assertEqual(open_rows(stuck, Database(("s", 1)), GROWING, ()), ())
        self.assertEqual(open_rows(stuck, Database(("s", 1)), LOOSE, ()), (("s", 1), ("t", 1), ("u", 1)))
        self.assertEqual(open_rows(stuck, Database(), GROWING.sealed(("u", "x")), ()), ())

    def test_papers_that_are_accepted(self):
        self.assertIs(is_firm_paper(SPLIT, ROWS, GROWING, (1,), ("firm", TREE)), True)
        self.assertIs(is_firm_paper(SPLIT, ROWS, GROWING, (1,), ("firm", ("ask", ("b", 9), TREE, TREE))), True)
        self.assertIs(is_firm_paper(SPLIT, ROWS, GROWING, (1,), ("spoiled", TREE)), False)
        self.assertIs(is_firm_paper(SPLIT, ROWS, GROWING, (1,), ("firm", ("match", 0, (1,)))), False)
        spoiler = ROWS.with_rows(("s", 1))
        for value, expected in (
                (spoiler, True), (spoiler.with_rows(("b", 77, HUGE)), True), (ROWS, False), (ROWS.with_rows(("s", 3)), False),
                (spoiler.without_rows(("t", 2)), False), (spoiler.rows, False), (None, False)):
            self.assertIs(is_spoiler(ALONE, ROWS, GROWING, (1,), value), expected)
            self.assertIs(is_firm_paper(ALONE, ROWS, GROWING, (1,), ("spoiled", value)), expected)
            self.assertIs(is_firm_paper(ALONE, ROWS, GROWING, (1,), ("firm", value)), False)
            self.assertIs(is_firm_paper(ALONE, ROWS, GROWING, (1,), ["spoiled", value]), False)
            self.assertIs(is_firm_paper(ALONE, ROWS, GROWING, (1,), ("spoiled", value, value)), False)
        self.assertIs(is_spoiler(ALONE, ROWS, GROWING, (2,), ROWS), True)
        self.assertIs(is_spoiler(ALONE, ROWS, GROWING.sealed(("s", "x")), (1,), spoiler), False)

    def test_depth_of_twenty_and_twenty_one(self):
        question, leaf = Question(make_rule((1,))), ("match", 0, ())
        tree = leaf
        for number in range(21):
            self.assertIs(is_firm_paper(question, ROWS, LOOSE, (1,), ("firm", tree)), True)
            tree = ("ask", ("b", number), leaf, tree)
        self.assertIs(is_firm_paper(question, ROWS, LOOSE, (1,), ("firm", tree)), False)

    def test_great_databases(self):
        many = Database(*[("t", number) for number in range(100)])
        self.assertIs(is_firm_paper(SPLIT, many, GROWING, (1,), ("firm", TREE)), True)
        self.assertIs(is_spoiler(ALONE, many, GROWING, (99,), many.with_rows(("s", 99))), True)
        self.assertIs(is_spoiler(ALONE, many, GROWING, (99,), many.with_rows(("s", 98))), False)
        self.assertIs(is_spoiler(ALONE, ROWS, LOOSE, (1,), many.with_rows(("s", 1))), True)
        question = Question(make_rule((), ("t", "x"), barred=(("s", "x"),)))
        self.assertIs(is_spoiler(question, many, GROWING, (), many | Database(*[("s", number) for number in range(100)])), True)
        self.assertIs(is_spoiler(question, many, GROWING, (), many | Database(*[("s", number) for number in range(99)])), False)

    def test_sixteen_open_rows(self):
        question, base = sixteen(16)
        self.assertEqual(open_rows(question, base, GROWING, ()), tuple(("s", number) for number in range(16)))
        paper = firm_paper(question, base, GROWING, ())
        self.assertEqual(paper, ("spoiled", base | Database(*[("s", number) for number in range(16)])))
        self.assertEqual(firm_answers(question, base, GROWING), ())
        firm = question.with_rule(make_rule((), *[("s", number) for number in (3, 5, 7, 15)]))
        self.assertEqual(firm_paper(firm, base, GROWING, ())[0], "firm")
        self.assertEqual(firm_answers(firm, base, GROWING), ((),))

    def test_seventeen_open_rows(self):
        question, base = sixteen(17)
        for function in (open_rows, firm_paper):
            with self.assertRaises(TooMany) as caught:
                function(question, base, GROWING, ())
            self.assertEqual(caught.exception.limit, 16)
        self.assertIs(is_firm_paper(question, base, GROWING, (), ("spoiled", base)), False)
        self.assertEqual(firm_answers(question, base, GROWING.sealed(("s", 11), ("s", 12))), ((),))
        # An answer that the database does not have is no reason for an error.
        self.assertEqual(firm_answers(question, Database(), GROWING), ())

    def test_proofs_that_need_all_sixteen(self):
        source = random.Random(24)
        rules = []
        for name, odd in (("p", 0), ("q", 1)):
            for bits in range(8):
                if bin(bits).count("1") % 2 != odd:
                    wanted = [("e", term) for at, term in enumerate("abc") if bits >> at & 1]
                    barred = [("e", term) for at, term in enumerate("abc") if not bits >> at & 1]
                    rules.append(make_rule((), (name, "a", "b", "c"), *wanted, barred=tuple(barred)))
        # A system of equations over bits that has no solution: some equation fails in each future.
        for many in (60, 60, 40, 30):
            base = Database(*[(source.choice("pq"),) + tuple(source.sample(range(16), 3)) for _ in range(many)])
            question, licence = Question(*rules), Licence(come=(("e", "x"),))
            self.assertEqual(len(open_rows(question, base, licence, ())), 16)
            paper = firm_paper(question, base, licence, ())
            self.assertEqual(paper[0], "firm")
            self.assertIs(is_firm_paper(question, base, licence, (), paper), True)

    def test_triangles_in_two_colours(self):
        # Six points: two colours of the lines always make a triangle of one colour. Five points: not.
        for points in (5, 6):
            lines = tuple(combinations(range(points), 2))
            base = Database(*[("p", one, other) for one, other in lines])
            sides = [("e", "a", "b"), ("e", "b", "c"), ("e", "a", "c")]
            question = Question(make_rule((), *sides, ("p", "a", "b")),
                                make_rule((), ("p", "a", "b"), ("p", "b", "c"), ("p", "a", "c"), barred=tuple(sides)))
            licence = Licence(come=tuple(("e",) + line for line in lines))
            paper = firm_paper(question, base, licence, ())
            self.assertEqual(paper[0], "firm" if points == 6 else "spoiled")
            self.assertIs(is_firm_paper(question, base, licence, (), paper), True)
            self.assertEqual(open_rows(question, base, licence, ()), tuple(("e",) + line for line in lines))

    def test_limits(self):
        base = Database(*[("t", number) for number in range(60)])
        wanted = (("t", "a"), ("t", "b"), ("t", "c"), ("t", "d"))
        unlike = (("a", "b"), ("b", "c"), ("c", "d"), ("d", "a"))
        barred = (("s",), ("u", "a", "b", "c"), ("u", "b", "c", "d"))
        come = (("s",),) + tuple(("u", number, number + 1, number + 2) for number in range(15))
        question = Question(*[make_rule(("a", "b", "c"), *wanted, barred=barred, unlike=unlike)] + [
            make_rule((number, "b", "c"), *wanted, barred=barred, unlike=unlike) for number in range(7)])
        self.assertEqual(len(question), 8)
        licence = Licence(come=come)
        self.assertEqual(open_rows(question, base, licence, (3, 4, 5)), (("s",), ("u", 3, 4, 5), ("u", 4, 5, 6)))
        self.assertIs(is_firm_paper(question, base, licence, (3, 4, 5), firm_paper(question, base, licence, (3, 4, 5))), True)
        whole = Question(*[make_rule((), *wanted, barred=barred, unlike=unlike[:many]) for many in range(4)])
        self.assertEqual(open_rows(whole, base, licence, ()), tuple(sorted(come)))
        self.assertEqual(firm_paper(whole, base, licence, ()), ("spoiled", base.with_rows(("s",))))
        going = Licence(go=tuple(("t", number) for number in range(0, 32, 2)))
        paper = firm_paper(whole, base, going, ())
        self.assertEqual(paper[0], "firm")
        self.assertIs(is_firm_paper(whole, base, going, (), paper), True)
        self.assertEqual(open_rows(whole, base, going, ()), going.go)

    def test_chances_without_end(self):
        # Only integers that stand in u are known, and none of them can be d.
        base = Database(*[("u", number) for number in range(60)])
        wanted = (("t", "a"), ("t", "b"), ("t", "c"), ("t", "d"))
        for rule in (make_rule((), *wanted, barred=(("u", "d"),)), make_rule((), ("r", "a", "b", "c"), ("t", "d"), barred=(("u", "d"),))):
            self.assertEqual(open_rows(Question(rule), base, GROWING, ()), ())
            self.assertEqual(firm_paper(Question(rule), base, GROWING, ()), ("spoiled", base))

    def test_great_integers(self):
        rows = Database(("t", HUGE), ("t", -HUGE), ("s", -HUGE))
        self.assertEqual(open_rows(SPLIT, rows, GROWING, (HUGE,)), (("s", HUGE),))
        self.assertEqual(firm_answers(SPLIT, rows, GROWING), ((-HUGE,), (HUGE,)))
        self.assertEqual(firm_paper(SPLIT, rows, GROWING, (-HUGE,)), ("firm", ("match", 1, (-HUGE,))))

    def test_every_value(self):
        for value in every_value():
            expected = isinstance(value, Database) and value == ROWS
            self.assertIs(is_spoiler(ALONE, ROWS, Licence(), (3,), value), expected)
            expected = type(value) is tuple and value == firm_paper(ALONE, ROWS, GROWING, (1,))
            self.assertIs(is_firm_paper(ALONE, ROWS, GROWING, (1,), value), expected)
            for word in ("firm", "spoiled"):
                paper = (word, value)
                right = word == "firm" and type(value) is tuple and value == ("match", 0, (1,)) and type(value[2][0]) is int
                self.assertIs(is_firm_paper(ALONE, Database(("t", 1)), Licence(), (1,), paper), right)
            self.assertIs(is_firm_paper(ALONE, Database(("t", 1)), Licence(), (1,), (value, ("match", 0, (1,)))), False)

    def test_errors(self):
        for function in (open_rows, firm_paper):
            self.check_errors(function, *CASE)
        self.check_errors(firm_answers, *CASE[:3])
        # Also where there are no answers to look at.
        self.check_errors(firm_answers, CASE[0], (Database(),) + CASE[1][1:], CASE[2])
        for function in (is_firm_paper, is_spoiler):
            self.check_errors(lambda *four: function(*four, None), *CASE)


if __name__ == "__main__":
    unittest.main()
