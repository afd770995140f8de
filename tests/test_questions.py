"""[0.11], [0.12] and stage 3 of the document: rules and questions."""

import random
import unittest
from itertools import product

from firmrows.ask.questions import Question, is_rule, make_rule, variables_of
from firmrows.base.databases import Database
from firmrows.errors import InvalidDatabase, InvalidNumber, InvalidOperation, InvalidQuestion, TooMany
from tests import oracle
from tests.chance import some_database, some_question, some_rule
from tests.samples import (
    ALONE, EITHER, HUGE, ROWS, SPLIT, ObjectTests, every_value, is_plain_integer, looks_like_exchange,
    looks_like_pattern, looks_like_term, wrong_for, wrong_indices, wrong_objects,
)

PLAIN = make_rule(("x",), ("t", "x"))
EMPTY = ((), (), (), ())


def tuple_of(value, most, is_right):
    return type(value) is tuple and len(value) <= most and all(is_right(part) for part in value)


def looks_like_rule(value):
    if type(value) is not tuple or len(value) != 4:
        return False
    head, wanted, barred, unlike = value
    if not (tuple_of(head, 3, looks_like_term) and tuple_of(wanted, 4, looks_like_pattern)
            and tuple_of(barred, 3, looks_like_pattern)
            and tuple_of(unlike, 4, lambda pair: tuple_of(pair, 2, looks_like_term) and len(pair) == 2)):
        return False
    bound = {term for pattern in wanted for term in pattern[1:] if isinstance(term, str)}
    return len(bound) <= 4 and set(oracle.variables(value)) <= bound


def numbered(many, width=0):
    """So many different rules."""
    return tuple(make_rule((0,) * width, ("t", number)) for number in range(many))


NEAR_RULES = [
    (("x",), (), (("t", "x"),), ()), (("x",), (), (), ()), ((), (), (), (("x", 1),)), ((), (), (("t", "x"),), ()),
    ((), (("t", "x"),), (("t", "y"),), ()), ((), (("t", "x"),), (), (("x", "y"),)), (("y",), (("t", "x"),), (), ()),
    ((1, 2, 3, 4), (), (), ()), ((), (("a",),) * 5, (), ()), ((), (), (("a",),) * 4, ()), ((), (), (), ((1, 2),) * 5),
    ((), (("u", "x", "y", "z"), ("r", "w", "v")), (), ()), ((), (("t", True),), (), ()), ((True,), (), (), ()),
    ((), (), (), ((1, True),)), ((), (), (), ((1,),)), ((), (), (), ((1, 2, 3),)), ((), (), (), (1, 2)),
    ((), (), (), ([1, 2],)), ((), ("a",), (), ()), ((), (("a",)), (), ()), ((), [("a",)], (), ()), ([], (), (), ()),
    ((), (), [], ()), ((), (), (), []), [(), (), (), ()], ((), (), ()), ((), (), (), (), ()), (("X",), (("t", "X"),), (), ()),
    (None, (), (), ()), ((), None, (), ()), ((), (), None, ()), ((), (), (), None), ("x", (("t", "x"),), (), ()),
    ((), (("t", 1, 2, 3, 4),), (), ()), ((), (("t", "abcdefghi"),), (), ()), {}, (((),), (), (), ()), (("t",), (), (), ()),
]

RIGHT_RULES = [
    EMPTY, ((1, 2, 3), (), (), ()), (("x",), (("t", "x"),), (), ()), ((), (("a",),) * 4, (("a",),) * 3, ((1, 1),) * 4),
    (("x", "x", 3), (("u", "x", "y", "z"), ("t", "w")), (("r", "x", "w"),), (("x", "y"), ("x", "x"), (3, "z"), (1, 2))),
    ((), (), (("t", 1),), ()), ((HUGE,), (("t", -HUGE),), (), ()), ((), (("x", "x"),), (("y", "x"),), ()),
    ((), (("r", "x", "y"), ("r", "z", "w"), ("r", "y", "z"), ("r", "w", "x")), (), ()),
]


def wrong_rules():
    return wrong_for(looks_like_rule) + NEAR_RULES


class RuleTests(ObjectTests):
    def test_is_rule(self):
        for value in every_value():
            self.assertIs(is_rule(value), looks_like_rule(value))
        for value in NEAR_RULES:
            self.assertIs(looks_like_rule(value), False)
            with self.subTest(value=value):
                self.assertIs(is_rule(value), False)
        for value in RIGHT_RULES:
            self.assertIs(looks_like_rule(value), True)
            with self.subTest(value=value):
                self.assertIs(is_rule(value), True)

    def test_one_wrong_part(self):
        wrongs = every_value()
        for wrong in wrongs:
            for place in range(4):
                rule = ((), (), (), ())
                rule = rule[:place] + (wrong,) + rule[place + 1:]
                self.assertIs(is_rule(rule), looks_like_rule(rule))
                rule = rule[:place] + ((wrong,),) + rule[place + 1:]
                self.assertIs(is_rule(rule), looks_like_rule(rule))
            rule = ((), (("t", "x"),), (), ((wrong, "x"),))
            self.assertIs(is_rule(rule), looks_like_rule(rule))

    def test_make_rule(self):
        self.assertEqual(make_rule(()), EMPTY)
        self.assertEqual(make_rule(("x",), ("t", "x"), barred=(("s", "x"),)), (("x",), (("t", "x"),), (("s", "x"),), ()))
        self.assertEqual(make_rule((1,), ("t", "x"), ("s", "y"), unlike=(("x", "y"), ("y", 3)), barred=(("a",),)),
                         ((1,), (("t", "x"), ("s", "y")), (("a",),), (("x", "y"), ("y", 3))))
        for head, wanted, barred, unlike in RIGHT_RULES:
            self.assertEqual(make_rule(head, *wanted, barred=barred, unlike=unlike), (head, wanted, barred, unlike))

    def test_errors_of_make_rule(self):
        for wrong in every_value():
            for call, rule in (
                    (lambda: make_rule(wrong), (wrong, (), (), ())),
                    (lambda: make_rule((), wrong), ((), (wrong,), (), ())),
                    (lambda: make_rule((), ("a",), wrong), ((), (("a",), wrong), (), ())),
                    (lambda: make_rule((), barred=wrong), ((), (), wrong, ())),
                    (lambda: make_rule((), unlike=wrong), ((), (), (), wrong))):
                with self.subTest(rule=str(rule)[:80]):
                    if looks_like_rule(rule):
                        self.assertEqual(call(), rule)
                    else:
                        self.assert_error(InvalidQuestion, call, [])
        self.assert_error(InvalidQuestion, lambda: make_rule((), *[("a",)] * 5), [])
        self.assert_error(InvalidQuestion, lambda: make_rule(("x",), barred=(("t", "x"),)), [])

    def test_variables_of(self):
        self.assertEqual(variables_of(EMPTY), ())
        self.assertEqual(variables_of(RIGHT_RULES[4]), ("w", "x", "y", "z"))
        self.assertEqual(variables_of(make_rule((), ("t", "b"), ("b", "a"), ("t", "ab"))), ("a", "ab", "b"))
        self.assertEqual(variables_of(make_rule((5,), ("x", 1), barred=(("y", 2),))), ())
        self.check_errors(variables_of, (PLAIN, wrong_rules(), InvalidQuestion))


class QuestionTests(ObjectTests):
    def test_rules_and_width(self):
        self.assertEqual((Question().rules, Question().width), ((), 0))
        for width in range(4):
            self.assertEqual((Question(width=width).rules, Question(width=width).width), ((), width))
            rule = make_rule((7,) * width)
            self.assertEqual(Question(rule).width, width)
            self.assertEqual(Question(rule, width=width), Question(rule))
            self.assertEqual(Question(rule, width=None), Question(rule))
        self.assertEqual(SPLIT.rules, (make_rule(("x",), ("t", "x"), barred=(("s", "x"),)),
                                       make_rule(("x",), ("t", "x"), ("s", "x"))))

    def test_of(self):
        self.assertEqual(Question.of(()), Question())
        self.assertEqual(Question.of((), width=2), Question(width=2))
        self.assertEqual(Question.of(SPLIT.rules), SPLIT)
        self.assertEqual(Question.of(SPLIT.rules, width=1), SPLIT)
        self.assertIsInstance(Question.of(SPLIT.rules), Question)

    def test_equal_rules(self):
        one, two, three = numbered(3)
        self.assertEqual(Question(two, one, two, three, one).rules, (two, one, three))
        self.assertEqual(Question(two, two).rules, (two,))
        self.assertEqual(len(Question.of((one, one, one))), 1)

    def test_eight_and_nine_rules(self):
        nine = numbered(9)
        self.assertEqual(Question(*nine[:8]).rules, nine[:8])
        self.assertEqual(Question(*(nine[:8] + nine[:8])).rules, nine[:8])
        for call in (lambda: Question(*nine), lambda: Question.of(nine), lambda: Question(*nine[:8], nine[0], nine[8])):
            with self.assertRaises(TooMany) as caught:
                call()
            self.assertEqual(caught.exception.limit, 8)

    def test_named(self):
        self.assertEqual(Question().named, ())
        self.assertEqual(ALONE.named, ())
        rule = make_rule((9, "x", 1), ("t", "x"), ("r", 5, -3), barred=(("s", HUGE), ("a",)), unlike=(("x", 4), (1, "x")))
        self.assertEqual(Question(rule).named, (-3, 1, 4, 5, 9, HUGE))
        self.assertEqual(Question(rule, make_rule((0, 0, 0))).named, (-3, 0, 1, 4, 5, 9, HUGE))

    def test_answers(self):
        self.assertEqual(EITHER(Database()), ((),))
        self.assertEqual(EITHER(Database(("b",))), ((),))
        self.assertEqual(EITHER(Database(("a",), ("b",))), ())
        self.assertEqual(Question(width=2)(ROWS), ())
        self.assertEqual(Question(EMPTY)(Database()), ((),))
        self.assertEqual(Question(make_rule((1, 2), unlike=((1, 1),)))(ROWS), ())
        self.assertEqual(Question(make_rule((1, 2), unlike=((1, 2),)))(ROWS), ((1, 2),))
        self.assertEqual(Question(make_rule(("x", "x"), ("t", "x"), unlike=(("x", "x"),)))(ROWS), ())
        self.assertEqual(Question(make_rule(("y", "x", 5), ("t", "x"), ("t", "y"), unlike=(("x", "y"),)))(ROWS),
                         ((1, 2, 5), (2, 1, 5)))
        self.assertEqual(Question(make_rule((3,), ("t", 1)), PLAIN)(ROWS), ((1,), (2,), (3,)))
        self.assertEqual(Question(make_rule(("x",), ("t", "x"), barred=(("t", 2),)))(ROWS), ())
        self.assertEqual(Question(make_rule(("x",), ("t", "x"), unlike=(("x", 2),)))(ROWS), ((1,),))
        self.assertEqual(Question(make_rule(("x",), ("r", "x", "x")))(Database(("r", 1, 2), ("r", 3, 3))), ((3,),))

    def test_answers_by_trial(self):
        source = random.Random(3)
        for _ in range(1200):
            question, base = some_question(source), some_database(source)
            self.assertEqual(question(base), oracle.answers(question.rules, base.rows), (question.rules, base.rows))

    def test_answers_of_single_rules_by_trial(self):
        source = random.Random(4)
        found = 0
        for _ in range(1200):
            rule, base = some_rule(source, source.randrange(4), 2), some_database(source, 2)
            expected = oracle.answers((rule,), base.rows)
            found = found + len(expected)
            self.assertEqual(Question(rule)(base), expected, (rule, base.rows))
        self.assertGreater(found, 100)

    def test_tables_and_variables_of_one_name(self):
        base = Database(("x", 1), ("x", 2), ("y", 2, 3), ("t", 2), ("t", 3))
        self.assertEqual(Question(make_rule(("x", "y"), ("x", "x"), ("y", "x", "y")))(base), ((2, 3),))
        self.assertEqual(Question(make_rule(("x",), ("x", "y"), ("t", "x")))(base), ((2,), (3,)))
        self.assertEqual(Question(make_rule(("x",), ("t", "x"), barred=(("x", "x"),)))(base), ((3,),))

    def test_great_databases(self):
        sixty = Database(*[("t", number) for number in range(60)])
        wanted = (("t", "a"), ("t", "b"), ("t", "c"), ("t", "d"))
        pairs = (("a", "b"), ("b", "c"), ("c", "d"), ("d", "a"))
        self.assertEqual(Question(make_rule((), *wanted, unlike=pairs))(sixty), ((),))
        self.assertEqual(Question(make_rule(("d",), *wanted, unlike=pairs))(sixty), tuple((n,) for n in range(60)))
        self.assertEqual(len(Question(make_rule(("a", "c"), *wanted, unlike=pairs))(sixty)), 3600)
        self.assertEqual(Question(make_rule((), *wanted, barred=(("s", "d"),)))(
            Database(*[(name, number) for name in "st" for number in range(30)])), ())
        chain = Database(*[("r", number, number + 1) for number in range(60)])
        steps = (("r", "a", "b"), ("r", "b", "c"), ("r", "c", "d"))
        self.assertEqual(Question(make_rule(("a", "d"), *steps))(chain), tuple((n, n + 3) for n in range(58)))
        self.assertEqual(len(Question(PLAIN)(sixty | Database(*[("t", 100 + n) for n in range(60)]))), 120)

    def test_with_rule(self):
        one, two, three = numbered(3)
        self.assertEqual(Question(one).with_rule(two).rules, (one, two))
        self.assertEqual(Question(one, two).with_rule(one).rules, (one, two))
        self.assertEqual(Question().with_rule(three), Question(three))
        self.assertEqual(Question(width=1).with_rule(PLAIN), Question(PLAIN))
        eight = Question(*numbered(8))
        self.assertEqual(eight.with_rule(one), eight)
        with self.assertRaises(TooMany) as caught:
            eight.with_rule(make_rule((), ("b",)))
        self.assertEqual(caught.exception.limit, 8)
        self.assertEqual(eight.rules, numbered(8))
        for question in (Question(), EITHER, eight, Question(width=3)):
            self.assert_error(InvalidQuestion, question.with_rule, [PLAIN])
        self.check_errors(ALONE.with_rule, (PLAIN, wrong_rules(), InvalidQuestion))

    def test_without_rule(self):
        rules = numbered(3, 2)
        question = Question(*rules)
        self.assertEqual(question.without_rule(0).rules, rules[1:])
        self.assertEqual(question.without_rule(1).rules, (rules[0], rules[2]))
        self.assertEqual(question.without_rule(2).rules, rules[:2])
        empty = Question(rules[0]).without_rule(0)
        self.assertEqual(empty, Question(width=2))
        self.assertEqual(question.rules, rules)
        self.check_errors(question.without_rule, (2, wrong_indices(3), InvalidNumber))
        for question, wrong in ((empty, 0), (Question(), 0), (Question(), -1), (ALONE, 1), (ALONE, True), (ALONE, False)):
            self.assert_error(InvalidNumber, question.without_rule, [wrong], wrong)

    def test_moved(self):
        rule = make_rule((1, "x", 2), ("t", "x"), ("r", 1, 2), barred=(("s", 2), ("a",)), unlike=(("x", 1), (3, 2)))
        self.assertEqual(Question(rule).moved({1: 2, 2: 1, 7: 9}).rules, (make_rule(
            (2, "x", 1), ("t", "x"), ("r", 2, 1), barred=(("s", 1), ("a",)), unlike=(("x", 2), (3, 1))),))
        self.assertEqual(Question(rule).moved({1: 2}).rules, (make_rule(
            (2, "x", 2), ("t", "x"), ("r", 2, 2), barred=(("s", 2), ("a",)), unlike=(("x", 2), (3, 2))),))
        self.assertEqual(Question(rule).moved({}), Question(rule))
        self.assertEqual(Question(width=3).moved({1: 2}), Question(width=3))
        one, two, three = numbered(3)
        self.assertEqual(Question(one, two, three).moved({2: 0}).rules, (one, two))
        self.assertEqual(Question(one, two, three).moved({0: 1}).rules, (two, three))
        self.assertEqual(Question(three, two, one).moved({0: 2, 1: 2}).rules, (three,))
        numbers = {1: HUGE}
        moved = Question(two).moved(numbers)
        numbers[1] = 5
        self.assertEqual(moved.named, (HUGE,))
        self.check_errors(Question(rule).moved, ({1: 1}, wrong_for(looks_like_exchange), InvalidOperation))

    def test_or(self):
        one, two, three = (Question(rule) for rule in numbered(3))
        self.assertEqual((one | two).rules, one.rules + two.rules)
        self.assertEqual((two | one).rules, two.rules + one.rules)
        self.assertEqual(one | one, one)
        self.assertEqual((three | one) | (one | two) | three, three | one | two)
        self.assertEqual(one | Question(), one)
        self.assertEqual(Question() | one, one)
        self.assertEqual(Question(width=1) | Question(width=1), Question(width=1))
        self.assertEqual((SPLIT | ALONE) == SPLIT, True)
        self.assertEqual((ALONE | SPLIT).rules, SPLIT.rules)
        eight = Question(*numbered(8))
        self.assertEqual(eight | eight, eight)
        self.assertEqual(eight | one, eight)
        with self.assertRaises(TooMany) as caught:
            eight | Question(make_rule((), ("b",)))
        self.assertEqual(caught.exception.limit, 8)
        self.check_errors(lambda other: EITHER | other, (one, wrong_objects(Question), InvalidOperation))
        for other in (ALONE, Question(width=1), Question(*numbered(8, 1))):
            self.assert_error(InvalidOperation, lambda value: eight | value, [other])

    def test_length_truth_and_text(self):
        self.assertEqual([len(Question()), len(ALONE), len(SPLIT)], [0, 1, 2])
        self.assertEqual([bool(Question()), bool(Question(width=2)), bool(ALONE)], [False, False, True])
        self.assertEqual([str(SPLIT), str(Question(width=3)), str(EITHER.without_rule(0))],
                         ["question of 2 rules, width 1", "question of 0 rules, width 3", "question of 1 rules, width 0"])

    def test_objects(self):
        rules = SPLIT.rules
        self.check_object(SPLIT, Question(*rules, width=1), [
            Question(rules[1], rules[0]), ALONE, Question(), Question(width=1), rules, list(rules)])
        self.check_object(Question(width=2), Question(width=2), [Question(), Question(width=1), (), 2])
        self.check_object(Question(), Question(width=0), [Question(width=1), (), Database()])
        self.check_sealed(SPLIT, ("rules", "width", "named"))

    def test_errors_of_calls(self):
        self.check_errors(ALONE, (ROWS, wrong_objects(Database), InvalidDatabase))

    def test_errors_of_the_rules(self):
        self.check_errors(Question, (PLAIN, wrong_rules(), InvalidQuestion), (PLAIN, wrong_rules(), InvalidQuestion))
        self.check_errors(lambda rule: Question.of((PLAIN, rule)), (PLAIN, wrong_rules(), InvalidQuestion))
        self.check_errors(Question.of, ((PLAIN,), wrong_for(
            lambda value: type(value) is tuple and all(looks_like_rule(part) for part in value)), InvalidQuestion))
        for rules in ((PLAIN, EMPTY), (EMPTY, PLAIN), (PLAIN, PLAIN, make_rule((1, 2)))):
            self.assert_error(InvalidQuestion, Question, rules)

    def test_errors_of_the_width(self):
        wrongs = wrong_for(lambda value: value is None or is_plain_integer(value) and 0 <= value <= 3)
        self.check_errors(lambda width: Question(width=width), (2, wrongs, InvalidNumber))
        self.check_errors(lambda width: Question(PLAIN, width=width), (1, wrongs, InvalidNumber))
        self.check_errors(lambda width: Question.of((PLAIN,), width=width), (1, wrongs, InvalidNumber))
        for width in (0, 2, 3):
            self.assert_error(InvalidQuestion, lambda value: Question(PLAIN, width=value), [width])
            self.assert_error(InvalidQuestion, lambda value: Question.of((PLAIN,), width=value), [width])

    def test_order_of_the_errors(self):
        nine = numbered(9)
        wrong_lists = ([PLAIN], None, "x", {}, 5)
        for rules, width in product(wrong_lists, (None, 1, 9, True)):
            self.assert_error(InvalidQuestion, lambda *both: Question.of(both[0], width=both[1]), [rules, width])
        for rules in ((PLAIN, EMPTY), (PLAIN, 5), nine + (None,), nine + (PLAIN,)):
            for width in (4, True, None, 2):
                self.assert_error(InvalidQuestion, lambda *both: Question(*both[0], width=both[1]), [rules, width])
        for width in (4, -1, True, False, "1", (1,), [1]):
            self.assert_error(InvalidNumber, lambda value: Question(*nine, width=value), [width], width)
        for width in (1, 2, 3):
            self.assert_error(InvalidQuestion, lambda value: Question(*nine, width=value), [width])
        for width in (0, None):
            self.assert_error(TooMany, lambda value: Question(*nine, width=value), [width])
        self.assert_error(InvalidQuestion, Question(*nine[:8]).with_rule, [PLAIN])


if __name__ == "__main__":
    unittest.main()
