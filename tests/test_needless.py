"""[12.1], [12.2] and stage 12 of the document: parts that are not needed."""

import random
import unittest

from firmrows.ask.questions import Question, make_rule
from firmrows.base.databases import Database
from firmrows.compare.needless import needless, part_paper, parts_of, rest_of, trimmed
from firmrows.compare.within import comparison, is_within_paper
from firmrows.errors import InvalidOperation, InvalidQuestion, TooMany
from tests import oracle
from tests.chance import some_small_question
from tests.samples import ALONE, EITHER, GROWING, ROWS, SPLIT, ErrorTests, every_value, wrong_for, wrong_objects

PLAIN = Question(make_rule(("x",), ("t", "x")))
WIDE = Question(
    make_rule(("x",), ("r", "x", "y"), ("t", "x"), ("r", "y", "x"), barred=(("s", "x"), ("s", "y")), unlike=(("x", "y"), ("y", 3))),
    make_rule((3,), ("t", 3), ("a",)), make_rule((4,)))
NO_PARTS = [
    ("rule", 3), ("rule", -1), ("rule", True), ("rule", False), ("rule", "0"), ("rule", 0, 0), ("rule",), ["rule", 0], ("Rule", 0),
    ("wanted", 0), ("wanted", 0, 3), ("wanted", 0, -1), ("wanted", False, 0), ("wanted", 0, True), ("wanted", 2, 0), ("wanted", 3, 0),
    ("barred", 0, 2), ("barred", 1, 0), ("barred", 0, None), ("barred", 0), ("unlike", 0, 2), ("unlike", 1, 0), ("unlike", 0, (0,)),
    ("unlike", 0, 0, 0), (0, "rule"), (), ("pair", 0), ("head", 0, 0), (("rule", 0),), ("barred", False, False), ("unlike", 0, False),
]


def plain_parts(rules):
    found = []
    for k, rule in enumerate(rules):
        found.append(("rule", k))
        for i in range(len(rule[1])):
            rest = [term for at, pattern in enumerate(rule[1]) if at != i for term in pattern[1:]]
            if set(oracle.variables(rule)) <= set(rest):
                found.append(("wanted", k, i))
        found.extend(("barred", k, i) for i in range(len(rule[2])))
        found.extend(("unlike", k, i) for i in range(len(rule[3])))
    return tuple(found)


def plain_rest(rules, part):
    rules = [list(rule) for rule in rules]
    if part[0] == "rule":
        del rules[part[1]]
    else:
        place = ("wanted", "barred", "unlike").index(part[0]) + 1
        values = rules[part[1]][place]
        rules[part[1]][place] = values[:part[2]] + values[part[2] + 1:]
    kept = []
    for rule in rules:
        if tuple(rule) not in kept:
            kept.append(tuple(rule))
    return tuple(kept)


class NeedlessTests(ErrorTests):
    def test_parts_of(self):
        self.assertEqual(parts_of(ALONE), (("rule", 0), ("barred", 0, 0)))
        self.assertEqual(parts_of(EITHER), (("rule", 0), ("barred", 0, 0), ("rule", 1), ("barred", 1, 0)))
        self.assertEqual(parts_of(WIDE), (
            ("rule", 0), ("wanted", 0, 0), ("wanted", 0, 1), ("wanted", 0, 2), ("barred", 0, 0), ("barred", 0, 1), ("unlike", 0, 0),
            ("unlike", 0, 1), ("rule", 1), ("wanted", 1, 0), ("wanted", 1, 1), ("rule", 2)))
        self.assertEqual(parts_of(Question(width=3)), ())
        # A wanted pattern in which alone a variable stands is no part; a second equal one is.
        single = Question(make_rule((), ("r", "x", "y"), ("t", "x"), ("s", "y")), make_rule((), ("t", "x"), ("t", "x")))
        self.assertEqual(parts_of(single), (("rule", 0), ("wanted", 0, 0), ("wanted", 0, 1), ("wanted", 0, 2),
                                            ("rule", 1), ("wanted", 1, 0), ("wanted", 1, 1)))
        chain = Question(make_rule((), ("r", "x", "y"), ("r", "y", "z")))
        self.assertEqual(parts_of(chain), (("rule", 0),))

    def test_parts_and_rests_by_trial(self):
        source = random.Random(81)
        for _ in range(300):
            question = some_small_question(source, source.randrange(4))
            parts = parts_of(question)
            self.assertEqual(parts, plain_parts(question.rules))
            for part in parts:
                rest = rest_of(question, part)
                self.assertEqual(rest.rules, plain_rest(question.rules, part))
                self.assertEqual(rest.width, question.width)

    def test_rest_of(self):
        self.assertEqual(rest_of(ALONE, ("barred", 0, 0)), PLAIN)
        self.assertEqual(rest_of(ALONE, ("rule", 0)), Question(width=1))
        self.assertEqual(rest_of(WIDE, ("wanted", 1, 0)).rules[1], make_rule((3,), ("a",)))
        self.assertEqual(rest_of(WIDE, ("unlike", 0, 0)).rules[0][3], (("y", 3),))
        self.assertEqual(rest_of(WIDE, ("wanted", 0, 1)).rules[0][1], (("r", "x", "y"), ("r", "y", "x")))
        # Of rules that become equal the first one stays.
        two = Question(make_rule((), ("a",), ("b",)), make_rule((), ("b",)))
        self.assertEqual(rest_of(two, ("wanted", 0, 0)).rules, (make_rule((), ("b",)),))
        self.assertEqual(rest_of(SPLIT, ("wanted", 1, 1)).rules, (SPLIT.rules[0], PLAIN.rules[0]))
        self.assertEqual(rest_of(SPLIT, ("wanted", 1, 1)).with_rule(PLAIN.rules[0]).rules, (SPLIT.rules[0], PLAIN.rules[0]))
        three = SPLIT | PLAIN
        self.assertEqual(rest_of(three, ("barred", 0, 0)).rules, (PLAIN.rules[0], SPLIT.rules[1]))

    def test_needless(self):
        self.assertEqual(needless(SPLIT), (("barred", 0, 0), ("wanted", 1, 1)))
        self.assertEqual(needless(ALONE), ())
        self.assertEqual(needless(SPLIT | PLAIN), (("rule", 0), ("barred", 0, 0), ("rule", 1), ("wanted", 1, 1), ("rule", 2)))
        self.assertEqual(needless(Question(make_rule((), ("t", "x"), ("t", "y")))), ())
        self.assertEqual(needless(Question(make_rule((), ("t", "x"), ("t", "x")))), (("wanted", 0, 0), ("wanted", 0, 1)))
        self.assertEqual(needless(Question(make_rule((), ("t", "x"), ("r", "x", "x"), ("r", "x", "y"), ("r", "y", "x")))), (
            ("wanted", 0, 2), ("wanted", 0, 3)))
        never = Question(make_rule((), ("t", "x"), barred=(("t", "x"),)))
        self.assertEqual(needless(never), (("rule", 0),))
        self.assertEqual(needless(Question(make_rule((), ("t", "x"), unlike=((3, 4), ("x", 3))))), (("unlike", 0, 0),))
        self.assertEqual(needless(Question(width=2)), ())

    def test_trimmed(self):
        self.assertEqual(trimmed(SPLIT), PLAIN)
        self.assertEqual(trimmed(ALONE), ALONE)
        self.assertEqual(trimmed(Question(make_rule((), ("t", "x"), ("t", "x")))), Question(make_rule((), ("t", "x"))))
        # Two parts that are needless one by one, but not together: the first one goes.
        self.assertEqual(trimmed(SPLIT | PLAIN), PLAIN)
        double = Question(make_rule((), ("t", "x")), make_rule((), ("t", "y")))
        self.assertEqual(needless(double), (("rule", 0), ("rule", 1)))
        self.assertEqual(trimmed(double).rules, (make_rule((), ("t", "y")),))
        self.assertEqual(trimmed(Question(make_rule((5,), ("a",), barred=(("a",),)))), Question(width=1))

    def test_by_trial(self):
        source = random.Random(82)
        told, lost = [], 0
        for _ in range(160):
            question = some_small_question(source, source.randrange(3))
            found = needless(question)
            self.assertEqual(found, tuple(part for part in parts_of(question) if part in found))
            for part in parts_of(question):
                rest = rest_of(question, part)
                paper = part_paper(question, part)
                pair = (question, rest) if part[0] == "rule" else (rest, question)
                self.assertIs(is_within_paper(*pair, paper), True)
                self.assertEqual(paper[0] == "within", part in found)
                word = "equal" if part in found else "around" if part[0] == "rule" else "within"
                self.assertEqual(comparison(question, rest), word)
                told.append((part[0], part in found))
            least = trimmed(question)
            self.assertEqual(needless(least), ())
            again = question
            while needless(again):
                again = rest_of(again, needless(again)[0])
            self.assertEqual(least, again)
            lost += least != question
            rows = oracle.all_rows(oracle.tables_of(question.rules), [0, 1, 5])
            for _ in range(20):
                some = source.sample(rows, source.randrange(min(8, len(rows) + 1)))
                self.assertEqual(oracle.answers(least.rules, some), oracle.answers(question.rules, some))
        self.assertGreater(lost, 50)
        for word in ("rule", "wanted", "barred", "unlike"):
            for needs in (True, False):
                self.assertGreater(told.count((word, needs)), 5, (word, needs))

    def test_too_many(self):
        four = (("t", "a"), ("t", "b"), ("t", "c"), ("t", "d"))
        many = Question(*[make_rule((), *[("s", 4 * at + number) for number in range(4)]) for at in range(7)], make_rule((), *four))
        for call in (lambda: part_paper(many, ("rule", 7)), lambda: needless(many), lambda: trimmed(many)):
            with self.assertRaises(TooMany) as caught:
                call()
            self.assertEqual(caught.exception.limit, 2000)
        self.assertEqual(len(parts_of(many)), 8 + 28)
        self.assertEqual(rest_of(many, ("rule", 7)), many.without_rule(7))

    def test_limits(self):
        rules = [make_rule((), ("r", "a", "b"), ("r", "b", "c"), ("r", "c", "d"), ("r", "d", "a"), barred=(("t", "a"), ("t", "b"), ("t", "c")),
                           unlike=(("a", "b"), ("b", "c"), ("c", "d"), ("d", "a"))),
                 make_rule((), ("r", "a", "b"), ("r", "b", "a"), ("r", "c", "d"), ("r", "d", "c"), unlike=(("a", "b"), ("c", "d")))]
        question = Question(*rules)
        least = trimmed(question)
        self.assertEqual(comparison(least, question), "equal")
        self.assertEqual(needless(least), ())

    def test_no_parts(self):
        for function in (rest_of, part_paper):
            for value in NO_PARTS:
                self.assert_error(InvalidOperation, function, [WIDE, value])

    def test_errors(self):
        questions = (ALONE, wrong_objects(Question), InvalidQuestion)
        wrong = wrong_for(lambda value: type(value) is tuple and value in (("rule", 0), ("barred", 0, 0)))
        for function in (rest_of, part_paper):
            self.check_errors(function, questions, (("barred", 0, 0), wrong, InvalidOperation))
        for function in (parts_of, needless, trimmed):
            self.check_errors(function, questions)
        for value in every_value():
            self.assert_error(InvalidOperation, rest_of, [Question(width=1), value])
            self.assert_error(InvalidQuestion, part_paper, [(ROWS, GROWING), value])


if __name__ == "__main__":
    unittest.main()
