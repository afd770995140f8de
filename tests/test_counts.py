"""Stage 10 of the document: how much can change."""

import random
import unittest

from firmrows.ask.questions import Question, make_rule
from firmrows.base.databases import Database
from firmrows.errors import TooMany
from firmrows.future.futures import can_change
from firmrows.future.licences import Licence
from firmrows.papers.counts import deciders, least_tree, share, weights
from firmrows.papers.firm import firm_paper, open_rows
from firmrows.papers.trees import depth, is_case_tree
from tests import oracle
from tests.chance import some_case
from tests.samples import ALONE, CASE, EITHER, GROWING, ROWS, SPLIT, ErrorTests

BOTH = Licence(come=(("a",), ("b",)))
NO_S = Question(make_rule((), ("t", "x"), barred=(("s", "x"),)))


def some_t(many):
    return Database(*[("t", number) for number in range(many)])


def least_depth(question, base, licence, answer, rows):
    """The least depth of a right case tree that asks only these rows, or None, by trying all."""
    ways = oracle.chances(question.rules, base.rows, licence, answer,
                          oracle.integers_of(question.rules, base.rows, answer))
    terms = [({row for row in way[2] if can_change(base, licence, row)}, {row for row in way[3] if can_change(base, licence, row)})
             for way in ways]

    def can(there, away, most):
        if any(wanted <= there and barred <= away for wanted, barred in terms):
            return True
        return most > 0 and any(can(there | {row}, away, most - 1) and can(there, away | {row}, most - 1)
                                for row in rows if row not in there | away)

    return next((most for most in range(len(rows) + 1) if can(set(), set(), most)), None)


class CountTests(ErrorTests):
    def test_by_trial(self):
        source = random.Random(51)
        told = []
        for _ in range(2500):
            question, base, licence, answer = some_case(source)
            opened = oracle.open_rows(question.rules, base.rows, licence, answer)
            if len(opened) > 9:
                continue
            ways = oracle.ways_to(question.rules, answer, oracle.integers_of(question.rules, base.rows, answer))
            held = {later: oracle.has_way(ways, later) for later in (
                frozenset(base.rows) ^ frozenset(some) for some in oracle.subsets(opened))}
            many = sum(held.values())
            self.assertEqual(share(question, base, licence, answer), (many, len(held)))
            self.assertEqual(deciders(question, base, licence, answer), tuple(
                row for row in opened if all(held[later] == (row in later) for later in held)
                or all(held[later] != (row in later) for later in held)))
            found = weights(question, base, licence, answer)
            self.assertEqual(found, {row: sum(held[later] != held[later ^ {row}] for later in held) for row in opened})
            self.assertEqual(list(found), list(opened))
            told.append((many > 0, many < len(held)))
        for kind in ((True, True), (True, False), (False, True)):
            self.assertGreater(told.count(kind), 100)

    def test_least_tree_by_trial(self):
        source = random.Random(52)
        depths = []
        for _ in range(2500):
            question, base, licence, answer = some_case(source)
            opened = oracle.open_rows(question.rules, base.rows, licence, answer)
            if len(opened) > 6:
                continue
            tree = least_tree(question, base, licence, answer)
            expected = least_depth(question, base, licence, answer, opened)
            if expected is None:
                self.assertIs(tree, None)
                self.assertEqual(firm_paper(question, base, licence, answer)[0], "spoiled")
            else:
                self.assertEqual(depth(tree), expected)
                self.assertIs(is_case_tree(question, base, licence, answer, tree), True)
                self.assertTrue(oracle.is_right(tree, question.rules, base.rows, licence, answer))
            depths.append(expected)
        for least, many in ((None, 300), (0, 100), (1, 20), (2, 5)):
            self.assertGreater(depths.count(least), many)

    def test_share(self):
        self.assertEqual(share(EITHER, Database(), BOTH, ()), (3, 4))
        self.assertEqual(share(EITHER, Database(("a",)), BOTH, ()), (1, 2))
        self.assertEqual(share(EITHER, Database(("a",), ("b",)), BOTH, ()), (0, 1))
        self.assertEqual(share(SPLIT, ROWS, GROWING, (1,)), (2, 2))
        self.assertEqual(share(SPLIT, ROWS, GROWING, (2,)), (1, 1))
        self.assertEqual(share(ALONE, ROWS, GROWING, (5,)), (1, 4))
        self.assertEqual(share(Question(width=1), ROWS, GROWING, (5,)), (0, 1))
        # An answer that is open only by integers that are not known.
        self.assertEqual(share(NO_S, Database(), GROWING, ()), (0, 1))

    def test_deciders_and_weights(self):
        self.assertEqual(deciders(EITHER, Database(), BOTH, ()), ())
        self.assertEqual(deciders(EITHER, Database(("a",)), BOTH, ()), (("b",),))
        self.assertEqual(deciders(ALONE, ROWS, GROWING, (1,)), (("s", 1),))
        self.assertEqual(deciders(Question(make_rule((), ("a",))), Database(), BOTH, ()), (("a",),))
        self.assertEqual(deciders(SPLIT, ROWS, GROWING, (1,)), ())
        self.assertEqual(weights(EITHER, Database(), BOTH, ()), {("a",): 2, ("b",): 2})
        self.assertEqual(weights(SPLIT, ROWS, GROWING, (1,)), {("s", 1): 0})
        self.assertEqual(weights(ALONE, ROWS, GROWING, (5,)), {("s", 5): 2, ("t", 5): 2})
        self.assertEqual(weights(Question(), ROWS, GROWING, ()), {})

    def test_least_trees(self):
        self.assertIs(least_tree(EITHER, Database(), BOTH, ()), None)
        self.assertEqual(least_tree(EITHER, Database(), BOTH.sealed(("b",)), ()), ("match", 1, ()))
        self.assertEqual(least_tree(SPLIT, ROWS, GROWING, (1,)), ("ask", ("s", 1), ("match", 1, (1,)), ("match", 0, (1,))))
        # The row that stands in all rules is asked first.
        rules = [make_rule((), ("c",), ("a",)), make_rule((), ("c",), barred=(("a",),)),
                 make_rule((), ("b",), barred=(("c",),)), make_rule((), barred=(("b",), ("c",)))]
        self.assertEqual(least_tree(Question(*rules), Database(), GROWING, ())[1], ("c",))
        self.assertEqual(depth(least_tree(Question(*rules), Database(), GROWING, ())), 2)

    def test_twelve_and_thirteen_open_rows(self):
        twelve, thirteen = some_t(12), some_t(13)
        self.assertEqual(share(NO_S, twelve, GROWING, ()), (4095, 4096))
        self.assertEqual(deciders(NO_S, twelve, GROWING, ()), ())
        self.assertEqual(weights(NO_S, twelve, GROWING, ()), {("s", number): 2 for number in range(12)})
        for function in (share, deciders, weights):
            with self.assertRaises(TooMany) as caught:
                function(NO_S, thirteen, GROWING, ())
            self.assertEqual(caught.exception.limit, 12)
        self.assertEqual(share(NO_S, thirteen, GROWING.sealed(("s", 4)), ()), (4096, 4096))

    def test_eight_and_nine_open_rows(self):
        self.assertIs(least_tree(NO_S, some_t(8), GROWING, ()), None)
        firm = NO_S.with_rule(make_rule((), *[("s", number) for number in (1, 3, 5, 7)]))
        tree = least_tree(firm, some_t(8), GROWING, ())
        self.assertEqual(depth(tree), 4)
        self.assertIs(is_case_tree(firm, some_t(8), GROWING, (), tree), True)
        with self.assertRaises(TooMany) as caught:
            least_tree(firm, some_t(9), GROWING, ())
        self.assertEqual(caught.exception.limit, 8)
        self.assertEqual(depth(least_tree(firm, some_t(9), GROWING.sealed(("s", 8)), ())), 0)

    def test_limits(self):
        base = some_t(60)
        wanted = (("t", "a"), ("t", "b"), ("t", "c"), ("t", "d"))
        question = Question(*[make_rule(
            (), *wanted, barred=(("s",), ("u", "a", "b", "c"), ("u", "b", "c", "d")), unlike=(("a", "b"), ("b", "c"), ("c", "d"), ("d", 0))[:many])
            for many in range(5)])
        licence = Licence(come=(("s",),) + tuple(("u", number, number, number) for number in range(11)))
        self.assertEqual(len(open_rows(question, base, licence, ())), 12)
        self.assertEqual(share(question, base, licence, ()), (2048, 4096))
        self.assertEqual(deciders(question, base, licence, ()), (("s",),))
        self.assertEqual(weights(question, base, licence, ())[("s",)], 4096)
        going = Licence(go=tuple(("t", number) for number in range(8)))
        tree = least_tree(question, base, going, ())
        self.assertEqual(depth(tree), 0)
        self.assertIs(is_case_tree(question, base, going, (), tree), True)

    def test_errors(self):
        for function in (share, deciders, weights, least_tree):
            self.check_errors(function, *CASE)


if __name__ == "__main__":
    unittest.main()
