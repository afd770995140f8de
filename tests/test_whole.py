"""What holds over the whole program: [0.2], [0.3], [0.4], [0.7] and [0.19]."""

import random
import unittest
from itertools import permutations

from firmrows.ask.matches import matches, matches_of
from firmrows.ask.questions import Question, make_rule
from firmrows.base.databases import Database
from firmrows.compare.frozen import frozen_rules
from firmrows.compare.within import comparison, within_paper
from firmrows.early.early import early_paper, is_early, kept_answers
from firmrows.early.least import is_set_within, least_set, question_of, reduced, set_and, set_or
from firmrows.early.shapes import are_alike, findings, found_answers, is_finding, is_found_in, is_shape, normal_form, symmetries
from firmrows.errors import InvalidOperation, NotEarly, TooMany
from firmrows.future.futures import futures
from firmrows.future.licences import Licence
from firmrows.live.caches import Cache
from firmrows.live.edits import (
    edit_paper, effects, frozen_pairs, gain_paper, is_deaf, is_edit_paper, is_gain_paper, is_loss_paper, loss_paper,
)
from firmrows.live.engines import Engine
from firmrows.live.networks import Network, trap
from firmrows.live.stores import Store
from firmrows.papers.counts import weights
from firmrows.papers.firm import firm_answers, is_firm_paper
from firmrows.papers.out import is_out_paper, out_paper, status, statuses
from firmrows.text.formats import format_question, parse_question
from firmrows.text.shell import Shell
from tests.chance import asked_database, asked_licence, asked_pattern, asked_row, lively_question
from tests.samples import ALONE, EITHER, GROWING, ROWS, SPLIT, ErrorTests, every_value

RING = ((), (("r", 4, 7), ("r", 7, 4)))
TWO = ((), (("t", 0), ("t", 1)))


def objects():
    """Objects of all kinds, new ones at each call."""
    store = Store()
    store.apply(("base", "b", ROWS, GROWING), ("ask", "q", ALONE))
    cache = Cache(ALONE)
    cache.fill(ROWS)
    return [Database(("t", 1)), Question(make_rule(())), Licence(come="any"), cache, Engine(ALONE, GROWING, database=ROWS),
            Network(SPLIT, {"a": ROWS, "b": Database()}), store, Shell()]


class WholeTests(ErrorTests):
    def test_objects_cannot_be_iterated(self):
        for one in objects():
            for call in (iter, list, tuple, sorted, lambda value: dict(value), lambda value: [part for part in value]):
                with self.subTest(kind=type(one).__name__):
                    self.assertRaises(TypeError, call, one)

    def test_equality(self):
        for place, (one, same) in enumerate(zip(objects(), objects())):
            if not isinstance(one, Shell):
                self.assertEqual([one == same, one != same], [True, False])
            for other_place, other in enumerate(objects()):
                if place != other_place:
                    self.assertEqual([one == other, one != other], [False, True])

    def test_names_by_keyword_in_any_order(self):
        for names in permutations(("come", "go", "shut", "kept")):
            parts = {"come": (("t", 1),), "go": "any", "shut": (("s", "x"),), "kept": (("r", 1, "x"),)}
            self.assertEqual(Licence(**{name: parts[name] for name in names}), Licence(**parts))
        self.assertEqual(make_rule((), ("a",), unlike=((1, 2),), barred=(("b",),)), make_rule((), ("a",), barred=(("b",),), unlike=((1, 2),)))
        self.assertEqual(Question.of((), width=2), Question(width=2))
        self.assertEqual(Question.of(SPLIT.rules, width=1), SPLIT)
        self.assertEqual(Database.of(ROWS.rows), ROWS)
        self.assertEqual(question_of((TWO,), width=0, fixed=()), question_of((TWO,), fixed=(), width=0))
        self.assertEqual(Engine(ALONE, GROWING, database=None), Engine(ALONE, GROWING))
        engine = Engine(ALONE, GROWING)
        self.assertEqual([engine.seal(("t", 1), go=False, come=True), engine.seal(("t", 1), come=True, go=False)], [(), ()])
        self.assertEqual(engine.log[0], engine.log[1])
        self.assertEqual(GROWING.sealed(("t", 1), go=False, come=True), GROWING.sealed(("t", 1), come=True, go=False))
        for call in (lambda: Engine(ALONE, GROWING, ROWS), lambda: Licence("any"), lambda: frozen_rules(ALONE, ()), lambda: normal_form(RING, ()),
                     lambda: question_of((TWO,), ()), lambda: Question.of((), 2), lambda: reduced((TWO,), ()), lambda: Engine(ALONE, GROWING).back(1),
                     lambda: Store().undo(0), lambda: Store().redo(0), lambda: findings(RING, ROWS, (), ()), lambda: is_found_in(RING, RING, ())):
            self.assertRaises(TypeError, call)

    def test_generators_two_at_a_time(self):
        base = Database(*[("t", number) for number in range(4)])
        for make in (lambda: matches(SPLIT, base), lambda: matches_of(SPLIT, base, (2,)), lambda: futures(base, GROWING, (("s", 1), ("s", 2))),
                     lambda: base.fitting(("t", "x")), lambda: findings(TWO, base, ())):
            whole = list(make())
            one, two = make(), make()
            taken = [next(one)]
            self.assertEqual(list(two), whole)
            three = make()
            next(three)
            taken += list(one)
            self.assertEqual(taken, whole)
            self.assertEqual(list(three), whole[1:])

    def test_what_was_returned_can_be_changed(self):
        table = next(findings(((1,), (("t", 1),)), ROWS, (2,)))
        table[1] = 5
        self.assertEqual(next(findings(((1,), (("t", 1),)), ROWS, (2,))), {1: 2})
        for make, key in ((lambda: statuses(SPLIT, ROWS, GROWING), (1,)), (lambda: weights(EITHER, Database(), GROWING, ()), ("a",)),
                          (lambda: trap(early_paper(ALONE), ALONE)[1], "a"), (lambda: next(matches(SPLIT, ROWS))[1], "x")):
            before, changed = make(), make()
            del changed[key]
            self.assertEqual(make(), before)
        parts = {"a": ROWS}
        network = Network(SPLIT, parts)
        del parts["a"]
        self.assertEqual([network.names, network.at("a")], [("a",), ROWS])

    def test_equal_calls_return_equal_results(self):
        source = random.Random(301)
        for _ in range(60):
            question, other = lively_question(source), lively_question(source)
            again = Question.of(question.rules, width=question.width)
            base, licence = asked_database(source, question, 5), asked_licence(source, question)
            pattern, row = asked_pattern(source, question), asked_row(source, question)
            answer = (0,) * question.width
            for call in (lambda one: early_paper(one), lambda one: loss_paper(one, pattern), lambda one: gain_paper(one, pattern),
                         lambda one: edit_paper(one, ("put", row), answer), lambda one: frozen_pairs(one, pattern), lambda one: firm_answers(one, base, licence),
                         lambda one: out_paper(one, base, licence, answer), lambda one: within_paper(one, other) if one.width == other.width else None):
                results = []
                for one in (question, again, question):
                    try:
                        results.append(call(one))
                    except TooMany as error:
                        results.append(error.limit)
                self.assertTrue(results[0] == results[1] == results[2])

    def test_arguments_stay_as_they_are(self):
        numbers = {1: 2, 2: 1}
        ROWS.moved(numbers)
        ALONE.moved(numbers)
        parts = {"b": ROWS, "a": Database()}
        Network(SPLIT, parts).finish()
        table = {7: 1, 4: 2}
        is_finding(RING, ROWS, (), table)
        self.assertEqual([list(numbers.items()), list(parts), list(table.items())], [[(1, 2), (2, 1)], ["b", "a"], [(7, 1), (4, 2)]])
        self.assertEqual([ROWS.rows, ALONE.rules, GROWING.come], [(("s", 2), ("t", 1), ("t", 2)), ((("x",), (("t", "x"),), (("s", "x"),), ()),), "any"])

    def test_judges_accept_every_value(self):
        for value in every_value():
            for judge in (is_shape, lambda value: is_finding(RING, ROWS, (), value), lambda value: is_loss_paper(ALONE, ("s", "x"), value),
                          lambda value: is_gain_paper(ALONE, ("s", "x"), value), lambda value: is_edit_paper(ALONE, ("put", ("s", 1)), (1,), value),
                          lambda value: is_firm_paper(ALONE, ROWS, GROWING, (1,), value), lambda value: is_out_paper(ALONE, ROWS, GROWING, (1,), value)):
                self.assertIn(judge(value), (True, False))

    def test_truths_are_no_integers(self):
        base = Database(("t", 1), ("t", 0))
        for call in (lambda: normal_form(RING, fixed=(True,)), lambda: found_answers((RING,), base, fixed=(False, 1)),
                     lambda: reduced((TWO,), fixed=(True,)), lambda: set_or((TWO,), (((), (("t", True),)),)),
                     lambda: set_and((((True,), (("t", 1),)),), ()), lambda: is_set_within((TWO,), (), fixed=(True, 2))):
            self.assertRaises(InvalidOperation, call)
        self.assertEqual([("t", True) in base, (True,) in Cache(ALONE), is_shape(((), (("t", True),)))], [False, False, False])

    def test_the_main_guarantee(self):
        # An answer is firm or has a spoiler, is out or has a maker; edits have effects as the papers tell; early questions have least sets.
        source = random.Random(302)
        told = []
        for _ in range(200):
            question = lively_question(source)
            base, licence = asked_database(source, question, 6), asked_licence(source, question)
            store = Store()
            store.apply(("base", "b", base, licence), ("ask", "q", parse_question(format_question(question))))
            pattern = asked_pattern(source, question)
            try:
                firm = store.firm_at("b", "q")
                for answer in question(base):
                    word = status(question, base, licence, answer)
                    papers = store.papers_at("b", "q", answer)
                    self.assertEqual((papers[0][0] == "firm", papers[1][0]), (word == "firm", "made"))
                    self.assertEqual(answer in firm, word == "firm")
                    told.append(word)
                loses, brings = effects(question, ("put", pattern))
                self.assertEqual((loses, brings), (loss_paper(question, pattern)[0] == "loss", gain_paper(question, pattern)[0] == "gain"))
                self.assertEqual(is_deaf(question, pattern), not loses and not brings)
                every = [loss_paper(question, (name,) + tuple("abc"[:many]))[0] for name, many in (("a", 0), ("b", 0), ("t", 1), ("s", 1), ("r", 2), ("u", 3))]
                if is_early(question):
                    self.assertTrue(set(every) <= {"no loss"})
                    fixed, shapes = least_set(question)
                    self.assertEqual(found_answers(shapes, base, fixed=fixed), question(base))
                    self.assertEqual(kept_answers(question, base), question(base))
                    network = Network(question, {"a": base, "b": asked_database(source, question, 3)})
                    self.assertEqual(network.finish(), question(network.whole))
                    told.append("early")
                else:
                    self.assertIn("loss", every + [loss_paper(question, ("x", "a"))[0], loss_paper(question, ("y", "a", "b"))[0]])
                    self.assertRaises(NotEarly, least_set, question)
                    told.append("late")
            except TooMany as error:
                self.assertIn(error.limit, (16, 2000, 20000))
        for word in ("firm", "open", "early", "late"):
            self.assertGreater(told.count(word), 20, word)

    def test_what_is_not_true(self):
        # [0.20]
        self.assertEqual([is_early(SPLIT), is_early(Question(make_rule((), ("r", "x", "y"), unlike=(("x", "y"),))))], [True, True])
        both = Question(make_rule((), ("a",)), make_rule((), barred=(("a",),)))
        self.assertEqual(firm_answers(both, Database(), Licence(come="any", go="any")), ((),))
        one, other = Licence(come=(("a",),)), Licence(come=(("b",),))
        self.assertEqual([firm_answers(EITHER, Database(), part) for part in (one, other, Licence(come=(("a",), ("b",))))], [((),), ((),), ()])
        whole = Question(make_rule(("x",), ("t", "x")))
        self.assertEqual([comparison(whole, SPLIT), [comparison(whole, Question(rule)) for rule in SPLIT.rules]], ["equal", ["around", "around"]])
        three = Question(make_rule(("x",), ("t", "x"), unlike=(("x", 3),)), make_rule((3,), ("t", 3)))
        self.assertEqual(least_set(three), least_set(whole))
        cache = Cache(ALONE)
        cache.fill(ROWS)
        self.assertEqual([cache.tell(("put", ("s", 9))), cache.answers], [(), ((1,),)])
        growing = Question(make_rule((), ("t", "x")))
        self.assertEqual([loss_paper(growing, ("t", "x"))[0], effects(growing, ("take", ("t", "x")))], ["no loss", (True, False)])
        self.assertEqual([are_alike(RING, ((), (("r", 1, 2), ("r", 2, 1)))), symmetries(TWO)], [True, 2])


if __name__ == "__main__":
    unittest.main()
