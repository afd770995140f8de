"""[11.1] and stage 11 of the document: frozen rules."""

import random
import unittest
from itertools import product

from firmrows.ask.questions import Question, make_rule
from firmrows.compare.frozen import frozen_rules
from firmrows.errors import InvalidOperation, InvalidQuestion, TooMany
from tests import oracle
from tests.chance import some_question, some_small_question
from tests.samples import ALONE, EITHER, HUGE, SPLIT, ErrorTests, every_value, looks_like_integers, wrong_for, wrong_objects

PLAIN = Question(make_rule(("x",), ("t", "x")))
FOUR = (("t", "a"), ("t", "b"), ("t", "c"), ("t", "d"))


def ways(variables, named):
    """How many ways there are to give integers to variables, if so many are named."""
    counts = {0: 1}
    for _ in range(variables):
        more = {}
        for new, many in counts.items():
            more[new] = more.get(new, 0) + many * (named + new)
            more[new + 1] = more.get(new + 1, 0) + many
        counts = more
    return sum(counts.values())


def ways_of(rule, numbers):
    """The ways to give integers to the variables of a rule without barred patterns."""
    names = oracle.variables(rule)
    new = [number for number in range(100, 104)][:len(names)]
    for values in product(numbers + tuple(new), repeat=len(names)):
        firsts = [value for at, value in enumerate(values) if value in new and value not in values[:at]]
        table = dict(zip(names, values))
        if firsts == new[:len(firsts)] and all(oracle.value_of(one, table) != oracle.value_of(other, table) for one, other in rule[3]):
            yield values


class FrozenTests(ErrorTests):
    def check(self, question, named=()):
        found = frozen_rules(question, named=named)
        self.assertEqual(found, oracle.frozen_rules(question.rules, named))
        self.assertEqual(found, tuple(sorted(set(found))))
        return found

    def test_by_trial(self):
        source = random.Random(61)
        sizes = []
        for _ in range(600):
            question = some_small_question(source, source.randrange(4))
            named = tuple(source.randrange(-1, 4) for _ in range(source.randrange(4)))
            sizes.append(len(self.check(question, source.choice((named, ())))))
        self.assertGreater(len([size for size in sizes if size > 5]), 100)

    def test_more_integers_by_trial(self):
        source = random.Random(62)
        for _ in range(200):
            question = some_question(source, 3)
            named = tuple(source.choice((-HUGE, -5, 0, 1, 2, 7, HUGE)) for _ in range(source.randrange(3)))
            try:
                self.check(question, named)
            except TooMany as error:
                self.assertEqual(error.limit, 2000)
                many = len({*question.named, *named})
                self.assertGreater(sum(ways(len(oracle.variables(rule)), many) for rule in question.rules), 2000)

    def test_one_variable(self):
        self.assertEqual(frozen_rules(ALONE), (((0,), (("t", 0),), (("s", 0),)),))
        self.assertEqual(frozen_rules(PLAIN, named=(0,)), (((0,), (("t", 0),), ()), ((1,), (("t", 1),), ())))
        self.assertEqual(frozen_rules(PLAIN, named=(1, 5)), tuple(((n,), (("t", n),), ()) for n in (0, 1, 5)))
        self.assertEqual(frozen_rules(PLAIN, named=(5, 1, 5, 0)), tuple(((n,), (("t", n),), ()) for n in (0, 1, 2, 5)))
        self.assertEqual(frozen_rules(SPLIT), (((0,), (("s", 0), ("t", 0)), ()), ((0,), (("t", 0),), (("s", 0),))))
        self.assertEqual(frozen_rules(EITHER, named=(3,)), (((), (), (("a",),)), ((), (), (("b",),))))
        self.assertEqual(frozen_rules(Question(width=2), named=(3,)), ())

    def test_integers_below_zero_and_great_ones(self):
        self.assertEqual(frozen_rules(PLAIN, named=(-4, HUGE)), tuple(((n,), (("t", n),), ()) for n in (-4, 0, HUGE)))
        question = Question(make_rule(("x", -HUGE), ("t", "x"), unlike=(("x", HUGE),)))
        self.assertEqual(frozen_rules(question), (((-HUGE, -HUGE), (("t", -HUGE),), ()), ((0, -HUGE), (("t", 0),), ())))

    def test_new_integers_come_in_order(self):
        question = Question(make_rule((), ("r", "y", "x")))
        self.assertEqual([rows for _, rows, _ in frozen_rules(question)], [(("r", 0, 0),), (("r", 1, 0),)])
        named = [rows[0] for _, rows, _ in frozen_rules(question, named=(1,))]
        self.assertEqual(named, [("r", 0, 0), ("r", 0, 1), ("r", 1, 0), ("r", 1, 1), ("r", 2, 0)])

    def test_pairs(self):
        question = Question(make_rule((), ("r", "x", "y"), unlike=(("x", "y"), ("x", 3))))
        self.assertEqual([rows[0] for _, rows, _ in frozen_rules(question)], [("r", 0, 1), ("r", 0, 3)])
        for pair in (("x", "x"), (3, 3)):
            self.assertEqual(self.check(Question(make_rule((), ("t", "x"), unlike=(pair,)))), ())
        self.assertEqual(len(self.check(Question(make_rule((), ("t", "x"), unlike=((3, 4),))))), 3)
        everything = (("a", "b"), ("c", "d"), ("a", "c"), ("b", "d"))
        for many in range(5):
            self.check(Question(make_rule(("a",), *FOUR, unlike=everything[:many])), (7,))
            self.check(Question(make_rule(("a",), ("r", "a", "b"), ("r", "c", "d"), unlike=everything[:many])))

    def test_barred_rows_that_would_be_wanted(self):
        question = Question(make_rule((), ("r", "x", "y"), barred=(("r", "y", "x"),)))
        self.assertEqual(frozen_rules(question), (((), (("r", 0, 1),), (("r", 1, 0),)),))
        self.assertEqual(self.check(Question(make_rule((), ("r", "x", "y"), barred=(("r", "x", "y"),)))), ())
        self.assertEqual(self.check(Question(make_rule((), ("a",), barred=(("a",),)))), ())
        constant = Question(make_rule((), ("t", "x"), barred=(("t", 3), ("t", -1))))
        self.assertEqual(frozen_rules(constant), (((), (("t", 0),), (("t", -1), ("t", 3))),))
        crossed = Question(make_rule((), ("t", "x"), ("t", "y"), barred=(("t", "x"),)))
        self.assertEqual(self.check(crossed, tuple(range(100))), ())

    def test_rules_that_freeze_alike(self):
        same = Question(make_rule((), ("r", "x", "y")), make_rule((), ("r", "b", "a")), make_rule((), ("r", "z", "z")))
        self.assertEqual([rows[0] for _, rows, _ in frozen_rules(same)], [("r", 0, 0), ("r", 0, 1), ("r", 1, 0)])
        twice = Question(make_rule((), ("t", "x"), ("t", "y"), barred=(("s", "x"), ("s", "y"))))
        self.assertEqual(frozen_rules(twice), (((), (("t", 0),), (("s", 0),)), ((), (("t", 0), ("t", 1)), (("s", 0), ("s", 1)))))

    def test_limits(self):
        # 1540 + 235 + 4 * 37 + 6 + 1 ways, all different: no error.
        self.assertEqual([ways(many, 5) for many in range(5)], [1, 6, 37, 235, 1540])
        rules = [make_rule((), ("u", "a", "b", "c"), ("v", "b", "c", "d"), ("t", 0)), make_rule((), ("u", "a", "b", "c"), ("t", 1)),
                 make_rule((), ("s", "x"), ("t", 2)), make_rule((), ("t", 3), ("t", 4))]
        rules = rules + [make_rule((), ("r", "x", "y"), ("t", number)) for number in range(4)]
        question = Question(*rules)
        self.assertEqual(question.named, (0, 1, 2, 3, 4))
        self.assertEqual(len(frozen_rules(question)), 1540 + 235 + 4 * 37 + 6 + 1)
        self.assertEqual(frozen_rules(question), oracle.frozen_rules(question.rules, ()))
        with self.assertRaises(TooMany) as caught:
            frozen_rules(question, named=(7,))
        self.assertEqual(caught.exception.limit, 2000)
        two = Question(make_rule((), ("r", "x", "y")))
        self.assertEqual(len(frozen_rules(two, named=tuple(range(43)))), ways(2, 43))
        self.assertEqual(ways(2, 43), 1937)
        one = Question(make_rule((), ("t", "x")))
        self.assertEqual(len(frozen_rules(one, named=tuple(range(1999)))), 2000)

    def test_exactly_two_thousand_ways(self):
        rules = [make_rule((), ("t", "a"), ("t", "b"), ("t", "c"), ("t", "d")), make_rule((), ("u", "a", "b", "c")),
                 make_rule((), ("v", "a", "b", "c"), unlike=(("a", 1),))]
        rules += [make_rule((), ("w", "x"), *[("k", number) for number in more]) for more in ((1,), (2,), (3,), (4, 5))]
        for last, many in (((("x", 1), ("x", 2), ("x", 3)), 2000), ((("x", 1), ("x", 2)), 2001)):
            question = Question(*rules, make_rule((), ("y", "x"), unlike=last))
            self.assertEqual(question.named, (1, 2, 3, 4, 5))
            found = sum(len(list(ways_of(rule, question.named))) for rule in question.rules)
            self.assertEqual(found, many)
            try:
                self.assertEqual(frozen_rules(question), oracle.frozen_rules(question.rules, ()))
                self.assertEqual(many, 2000)
            except TooMany as error:
                self.assertEqual((error.limit, many), (2000, 2001))

    def test_errors(self):
        questions = (SPLIT, wrong_objects(Question), InvalidQuestion)
        named = ((1, -2, 1), wrong_for(looks_like_integers), InvalidOperation)
        self.check_errors(lambda question, numbers: frozen_rules(question, named=numbers), questions, named)
        self.check_errors(frozen_rules, questions)
        many = Question(*[make_rule((), *[("t", 4 * at + number) for number in range(4)]) for at in range(7)], make_rule((), *FOUR))
        self.assertRaises(TooMany, frozen_rules, many)
        for value in every_value():
            # The error of the argument comes ahead of too many ways.
            if not looks_like_integers(value):
                self.assert_error(InvalidOperation, lambda named: frozen_rules(many, named=named), [value])

    def test_nothing_changes(self):
        named = (3, 1, 3)
        self.assertEqual(frozen_rules(SPLIT, named=named), frozen_rules(SPLIT, named=named))
        self.assertEqual(named, (3, 1, 3))
        self.assertEqual(len(SPLIT), 2)


if __name__ == "__main__":
    unittest.main()
