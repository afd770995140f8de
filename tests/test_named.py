"""[13.1] to [13.3] and stage 13 of the document: integers that matter."""

import random
import unittest

from firmrows.ask.questions import Question, make_rule
from firmrows.base.databases import Database
from firmrows.compare.named import copy_of, fresh, is_matter_paper, matter_paper, mattering
from firmrows.compare.within import comparison, is_within_paper, within_paper
from firmrows.errors import InvalidNumber, InvalidQuestion, TooMany
from tests import oracle
from tests.chance import some_small_question, some_variation
from tests.samples import (
    ALONE, EITHER, GROWING, HUGE, ROWS, SPLIT, ErrorTests, every_value, is_plain_integer, wrong_for, wrong_objects,
)

PLAIN = Question(make_rule(("x",), ("t", "x")))
THREE = Question(make_rule(("x",), ("t", "x"), unlike=(("x", 3),)), make_rule((3,), ("t", 3)))
BUT_THREE = THREE.without_rule(1)
NUMBERS = (3, wrong_for(is_plain_integer), InvalidNumber)
QUESTIONS = (THREE, wrong_objects(Question), InvalidQuestion)


def plain_copy(rules, number):
    """The rules with the fresh integer in the place of a number."""
    named = oracle.integers_of(rules, ())
    new = next(value for value in range(len(named) + 1) if value not in named)
    swap = lambda term: new if term == number else term
    pattern = lambda one: (one[0],) + tuple(map(swap, one[1:]))
    return tuple((tuple(map(swap, head)), tuple(map(pattern, wanted)), tuple(map(pattern, barred)),
                  tuple(tuple(map(swap, pair)) for pair in unlike)) for head, wanted, barred, unlike in rules)


class NamedTests(ErrorTests):
    def test_fresh(self):
        for numbers, expected in (((), 0), ((0,), 1), ((1,), 0), ((0, 1, 2), 3), ((0, 2, 3), 1), ((-1, -5), 0), ((HUGE, 0, -HUGE), 1)):
            question = Question(make_rule((), *[("t", number) for number in numbers]))
            self.assertEqual(fresh(question), expected)
        self.assertEqual(fresh(Question(width=2)), 0)
        self.assertEqual(fresh(Question(make_rule((0,), ("t", 1), barred=(("t", 2),), unlike=((3, 4),)))), 5)

    def test_copy_of(self):
        question = Question(make_rule((HUGE, "x"), ("r", HUGE, "x"), ("t", -7), barred=(("s", HUGE), ("t", 0)), unlike=(("x", HUGE), (-7, "x"))))
        self.assertEqual(copy_of(question, HUGE).rules[0], (
            (1, "x"), (("r", 1, "x"), ("t", -7)), (("s", 1), ("t", 0)), (("x", 1), (-7, "x"))))
        self.assertEqual(copy_of(question, -7).rules[0][1:], (
            (("r", HUGE, "x"), ("t", 1)), (("s", HUGE), ("t", 0)), (("x", HUGE), (1, "x"))))
        self.assertEqual(copy_of(question, 0).rules[0][2], (("s", HUGE), ("t", 1)))
        for number in (1, 2, -HUGE, 5):
            self.assertEqual(copy_of(question, number), question)
        # The copy of the copy, for the fresh integer.
        copy = copy_of(question, HUGE)
        self.assertEqual(fresh(copy), 2)
        self.assertEqual(copy_of(copy, 1).rules[0][0], (2, "x"))
        self.assertEqual(copy_of(copy, HUGE), copy)
        self.assertEqual(copy_of(copy_of(PLAIN.moved({}), 0), 0), PLAIN)
        self.assertEqual(copy_of(Question(width=3), 4), Question(width=3))

    def test_copies_by_trial(self):
        source = random.Random(91)
        for _ in range(300):
            question = some_small_question(source, source.randrange(3))
            for number in question.named + (7, -2):
                copy = copy_of(question, number)
                self.assertEqual(copy.rules, plain_copy(question.rules, number))
                self.assertEqual(copy.width, question.width)

    def test_mattering(self):
        self.assertEqual(mattering(THREE), ())
        self.assertEqual(mattering(BUT_THREE), (3,))
        self.assertEqual(mattering(PLAIN), ())
        self.assertEqual(mattering(Question(make_rule((5,), ("a",)), make_rule((HUGE,), ("a",)), make_rule((-4,), ("a",), barred=(("a",),)))),
                         (5, HUGE))
        self.assertEqual(mattering(Question(make_rule((), ("t", 3)), make_rule((), ("t", "x")))), ())
        self.assertEqual(mattering(Question(make_rule((), ("t", -3), barred=(("t", 8),)))), (-3, 8))
        self.assertEqual(mattering(Question(make_rule((), ("a",), unlike=((3, 4),)))), ())
        self.assertEqual(mattering(Question(width=2)), ())

    def test_all_small_databases(self):
        source = random.Random(92)
        told = []
        while len(told) < 200:
            question = some_small_question(source, source.randrange(2))
            if not question.named:
                continue
            number = source.choice(question.named)
            copy = plain_copy(question.rules, number)
            integers = sorted({number, fresh(question), 50})
            rows = oracle.all_rows(oracle.tables_of(question.rules), integers)
            if len(rows) > 9:
                continue
            matters = number in mattering(question)
            told.append(matters)
            found = [some for some in oracle.small_databases(oracle.tables_of(question.rules), integers, 9)
                     if oracle.answers(question.rules, some) != oracle.answers(copy, some)]
            self.assertFalse(found and not matters, (question.rules, number, found[:1]))
        self.assertGreater(min(told.count(True), told.count(False)), 20)

    def test_papers_by_trial(self):
        source = random.Random(93)
        told = []
        for _ in range(250):
            question = some_small_question(source, source.randrange(3))
            found = mattering(question)
            for number in question.named + (9, -3):
                paper = matter_paper(question, number)
                told.append(paper[0])
                self.assertEqual(paper[0], "matters" if number in found else "idle")
                self.assertIs(is_matter_paper(question, number, paper), True)
                copy = plain_copy(question.rules, number)
                if paper[0] == "matters":
                    has = paper[2] in oracle.answers(question.rules, paper[1].rows)
                    self.assertNotEqual(has, paper[2] in oracle.answers(copy, paper[1].rows))
                else:
                    self.assertIs(is_within_paper(question, Question(*copy, width=question.width), ("within", paper[1])), True)
                    self.assertIs(is_within_paper(Question(*copy, width=question.width), question, ("within", paper[2])), True)
                    self.check_otherwise(source, question, number, paper)
        self.assertGreater(min(told.count("idle"), told.count("matters")), 100)

    def check_otherwise(self, source, question, number, paper):
        """An idle paper with something otherwise."""
        copy = copy_of(question, number)
        for at in (1, 2):
            pair = (question, copy) if at == 1 else (copy, question)
            trees = paper[at]
            for other in (trees + trees[:1], trees[1:], trees[::-1]):
                value = paper[:at] + (other,) + paper[at + 1:]
                self.assertIs(is_matter_paper(question, number, value), is_within_paper(*pair, ("within", other)))

    def test_the_same_integers_matter(self):
        # [13.2]: for questions that have the same answers in every database.
        source = random.Random(94)
        many = 0
        for _ in range(300):
            question = some_small_question(source, source.randrange(2))
            other = some_variation(source, question)
            if comparison(question, other) == "equal":
                self.assertEqual(mattering(question), mattering(other))
                many += question != other and question.named != other.named
        self.assertGreater(many, 5)

    def test_answers_are_replaced_in_the_same_way(self):
        source = random.Random(95)
        for _ in range(200):
            question = some_small_question(source, source.randrange(3))
            matter = mattering(question)
            rows = oracle.all_rows(oracle.tables_of(question.rules), [0, 1, 5])
            base = Database(*source.sample(rows, source.randrange(min(6, len(rows) + 1))))
            free = [number for number in (0, 1, 5) if number not in matter]
            target = source.sample([number for number in (0, 1, 5, 8, 11) if number not in matter], len(free))
            table = dict(zip(free, target))
            answers = question(base)
            # Integers that stand in an answer without being in the database are replaced like the others.
            moved = tuple(sorted(tuple(table.get(number, number) for number in answer) for answer in answers))
            if set(number for answer in answers for number in answer) <= {*base.numbers, *matter}:
                self.assertEqual(question(base.moved(table)), moved)

    def test_papers_that_are_accepted(self):
        idle = matter_paper(THREE, 3)
        self.assertEqual(idle[0], "idle")
        self.assertIs(is_matter_paper(THREE, 3, idle), True)
        for value in (("idle", idle[2][:1], idle[1]), ("idle", idle[1], idle[2][1:]), ("idle", (), idle[2]), ("idle", idle[1]),
                      ("idle", list(idle[1]), idle[2]), ("matters", idle[1], idle[2]), ("matters", ROWS, (1,)), idle + ((),),
                      list(idle), ("within", idle[1], idle[2]), ("idle", ("within", idle[1]), ("within", idle[2])), ()):
            self.assertIs(is_matter_paper(THREE, 3, value), False, value)
        for base, answer, expected in (
                (Database(("t", 3)), (3,), True), (Database(("t", 0)), (0,), True), (Database(("t", 0), ("t", 3)), (3,), True),
                (Database(("t", 4)), (4,), False), (Database(("t", 3)), (0,), False), (Database(("t", 3)), (3, 3), False),
                (Database(("t", 3)), [3], False), ((("t", 3),), (3,), False), (Database(("t", 3), ("s", 0)), (3,), True)):
            self.assertIs(is_matter_paper(BUT_THREE, 3, ("matters", base, answer)), expected)
        great = Database(*[("t", number) for number in range(100)])
        self.assertIs(is_matter_paper(BUT_THREE, 3, ("matters", great, (3,))), True)
        self.assertIs(is_matter_paper(BUT_THREE, 3, ("matters", great, (99,))), False)

    def test_integers_that_are_not_named(self):
        for number in (0, 1, 9, -HUGE):
            paper = matter_paper(SPLIT, number)
            self.assertEqual(paper, ("idle", within_paper(SPLIT, SPLIT)[1], within_paper(SPLIT, SPLIT)[1]))
            self.assertIs(is_matter_paper(SPLIT, number, paper), True)
            self.assertIs(is_matter_paper(SPLIT, number, ("matters", ROWS, (1,))), False)
        self.assertEqual(matter_paper(Question(width=1), 0), ("idle", (), ()))

    def test_too_many(self):
        four = (("t", "a"), ("t", "b"), ("t", "c"), ("t", "d"))
        many = Question(make_rule((), *four), *[make_rule((), *[("t", 4 * at + number) for number in range(4)]) for at in range(7)])
        with self.assertRaises(TooMany) as caught:
            matter_paper(many, 3)
        self.assertEqual(caught.exception.limit, 2000)
        self.assertIs(is_matter_paper(many, 3, ("idle", (), ())), False)
        self.assertIs(is_matter_paper(many, 3, ("matters", ROWS, ())), False)
        self.assertEqual(fresh(many), 28)

    def test_every_value(self):
        for value in every_value():
            for paper in (value, ("idle", value, ()), ("idle", (), value), ("matters", value, (3,)), ("matters", Database(("t", 3)), value),
                          (value, (), ()), ("idle", (value,), (value,))):
                self.assertIs(is_matter_paper(THREE, 3, paper), False)
            expected = type(value) is tuple and value == (3,)
            self.assertIs(is_matter_paper(BUT_THREE, 3, ("matters", Database(("t", 3)), value)), expected)

    def test_errors(self):
        for function in (copy_of, matter_paper, lambda one, other: is_matter_paper(one, other, None)):
            self.check_errors(function, QUESTIONS, NUMBERS)
        for function in (fresh, mattering):
            self.check_errors(function, QUESTIONS)
        for value in every_value():
            self.assert_error(InvalidNumber, is_matter_paper, [THREE, True, value], True)
            self.assert_error(InvalidQuestion, is_matter_paper, [GROWING, 3, value])
        self.assertEqual(EITHER.named, ())
        self.assertEqual(ALONE.named, ())


if __name__ == "__main__":
    unittest.main()
