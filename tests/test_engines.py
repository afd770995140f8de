"""Engines: promise [18.1]."""

import random
import unittest

from firmrows.ask.questions import Question, make_rule
from firmrows.base.databases import Database
from firmrows.errors import (
    InvalidAnswer, InvalidDatabase, InvalidLicence, InvalidNumber, InvalidOperation, InvalidPattern, InvalidQuestion, InvalidRow,
    NothingToUndo, NotLet, TooMany,
)
from firmrows.future.licences import Licence
from firmrows.live.engines import Engine
from firmrows.papers.firm import firm_answers, firm_paper
from firmrows.papers.out import status
from tests import oracle
from tests.chance import asked_database, asked_licence, asked_pattern, asked_row, lively_question
from tests.samples import (
    ALONE, GROWING, ROWS, SPLIT, ObjectTests, every_value, is_plain_integer, wrong_answers, wrong_for, wrong_objects, wrong_patterns,
    wrong_rows,
)

FULL = Database(*[("t", number) for number in range(60)])


def some_move(source, question):
    if source.random() < 0.4:
        patterns = tuple(asked_pattern(source, question) for _ in range(source.randrange(3)))
        return ("seal", patterns, source.random() < 0.7, source.random() < 0.7)
    return (source.choice(("put", "put", "take")), asked_row(source, question))


def is_let(engine, move):
    if move[0] == "seal":
        return True
    there = move[1] in engine.database
    if move[0] == "put":
        return there or oracle.may(move[1], engine.licence.come, engine.licence.shut)
    return not there or oracle.may(move[1], engine.licence.go, engine.licence.kept)


def made(engine, move):
    """Make a move by its method."""
    if move[0] == "seal":
        return engine.seal(*move[1], come=move[2], go=move[3])
    return engine.put(move[1]) if move[0] == "put" else engine.take(move[1])


def state(engine):
    return (engine.database.rows, engine.licence, engine.shown, engine.log, len(engine), str(engine))


class EngineTests(ObjectTests):
    def test_drawn_moves(self):
        source = random.Random(181)
        told = []
        for _ in range(600):
            question = lively_question(source)
            licence = asked_licence(source, question)
            base = asked_database(source, question, 5)
            try:
                engine = Engine(question, licence, database=base)
            except TooMany:
                continue
            since = {answer: 0 for answer in firm_answers(question, base, licence)}
            self.assertEqual(engine.shown, tuple(sorted(since)))
            log, moments = (), [(base, licence, engine.shown)]
            for _ in range(source.randrange(1, 10)):
                move = some_move(source, question)
                before = state(engine)
                if not is_let(engine, move):
                    with self.assertRaises(NotLet) as caught:
                        made(engine, move)
                    self.assertEqual((caught.exception.row, state(engine)), (move[1], before))
                    told.append("refused")
                    continue
                try:
                    new = made(engine, move)
                except TooMany as error:
                    self.assertEqual((error.limit, state(engine)), (16, before))
                    continue
                if move[0] == "put":
                    base = base.with_rows(move[1])
                elif move[0] == "take":
                    base = base.without_rows(move[1])
                else:
                    licence = licence.sealed(*move[1], come=move[2], go=move[3])
                log = log + (move,)
                self.check_moment(engine, base, licence, log, new, since)
                moments.append((base, licence, engine.shown))
                told.append("shown" if new else "nothing")
            self.check_back_and_after(source, engine, moments, log)
        for word, many in (("refused", 40), ("shown", 40), ("nothing", 150)):
            self.assertGreater(told.count(word), many)

    def check_moment(self, engine, base, licence, log, new, since):
        """What an engine tells at a moment, compared with what is firm."""
        question = engine.question
        self.assertEqual((engine.database, engine.licence, engine.log, len(engine)), (base, licence, log, len(log)))
        self.assertEqual(new, tuple(answer for answer in engine.shown if answer not in since))
        try:
            self.assertEqual(engine.shown, firm_answers(question, base, licence))
        except TooMany as error:
            self.assertEqual(error.limit, 16)
        self.assertTrue(set(since) <= set(engine.shown))
        for answer in new:
            since[answer] = len(log)
        for answer in question(base):
            self.assertEqual(engine.since(answer), since.get(answer))
            try:
                self.assertEqual(firm_paper(question, base, licence, answer)[0] == "firm", answer in engine.shown)
                self.assertEqual(engine.status(answer), status(question, base, licence, answer))
            except TooMany as error:
                self.assertIn(error.limit, (16, 20000))
        self.assertEqual(str(engine), f"engine of {len(base)} rows, {len(engine.shown)} answers shown")

    def check_back_and_after(self, source, engine, moments, log):
        again = Engine(engine.question, moments[0][1], database=moments[0][0]).after(*log)
        self.assertEqual(again, engine)
        self.assertEqual(state(again), state(engine))
        many = source.randrange(len(log) + 1)
        first, rest = log[:len(log) - many], log[len(log) - many:]
        self.assertEqual(again.back(many=many), len(log) - many)
        base, licence, shown = moments[len(log) - many]
        self.assertEqual((again.database, again.licence, again.shown, again.log), (base, licence, shown, first))
        self.assertEqual(again.after(*rest), engine)
        self.assertEqual(len(again), len(first))
        self.assertEqual(engine.after(), engine)

    def test_when_nothing_can_change(self):
        # Exactly the answers are shown then, and each of them since the first moment without a spoiler.
        source = random.Random(182)
        many = 0
        for _ in range(80):
            question = lively_question(source)
            tables = {(name, arity) for name, arity in oracle.tables_of(question.rules)}
            engine = Engine(question, asked_licence(source, question), database=asked_database(source, question, 5))
            try:
                for name, arity in sorted(tables):
                    before = engine.shown
                    new = engine.seal((name,) + tuple("abc"[:arity]))
                    self.assertEqual(engine.shown, tuple(sorted(before + new)))
            except TooMany:
                continue
            self.assertEqual(engine.shown, question(engine.database))
            many += len(engine.shown)
        self.assertGreater(many, 30)

    def test_moves(self):
        engine = Engine(SPLIT, GROWING)
        self.assertEqual([bool(engine), len(engine), engine.log, engine.shown], [False, 0, (), ()])
        self.assertEqual([engine.put(("t", 1)), engine.put(("t", 1)), engine.take(("t", 2)), engine.put(("s", 1))], [((1,),), (), (), ()])
        self.assertEqual([engine.seal(), engine.seal(("t", "b"), ("s", "z"), go=False), bool(engine)], [(), (), True])
        self.assertEqual(engine.log, (("put", ("t", 1)), ("put", ("t", 1)), ("take", ("t", 2)), ("put", ("s", 1)), ("seal", (), True, True),
                                      ("seal", (("t", "b"), ("s", "z")), True, False)))
        self.assertEqual([engine.licence.shut, engine.licence.kept], [(("s", "a"), ("t", "a")), ()])
        self.assertEqual([engine.since((1,)), engine.since((2,)), engine.status((1,)), engine.status((2,))], [1, None, "firm", "out"])
        self.assertEqual([engine.back(many=0), engine.back(many=6), engine.shown, engine.since((1,)), bool(engine)], [6, 0, (), None, False])
        self.assertEqual(engine, Engine(SPLIT, GROWING, database=Database()))

    def test_moves_that_are_not_let(self):
        engine = Engine(ALONE, Licence(come=(("t", "x"),)), database=ROWS)
        before = state(engine)
        for call, row in ((lambda: engine.put(("s", 1)), ("s", 1)), (lambda: engine.take(("t", 1)), ("t", 1))):
            with self.assertRaises(NotLet) as caught:
                call()
            self.assertEqual((caught.exception.row, state(engine)), (row, before))
        self.assertEqual([engine.put(("s", 2)), engine.take(("s", 1)), engine.database], [(), (), ROWS])

    def test_sixty_rows(self):
        engine = Engine(ALONE, GROWING.sealed(("s", "x")), database=FULL)
        self.assertEqual(len(engine.shown), 60)
        before = state(engine)
        self.assertRaises(InvalidDatabase, engine.put, ("t", 60))
        self.assertEqual(state(engine), before)
        self.assert_error(NotLet, engine.put, [("s", 60)])
        self.assertEqual([engine.put(("t", 59)), len(engine)], [(), 1])
        engine = Engine(ALONE, GROWING.sealed(("s", "x")), database=FULL - Database(("t", 7)))
        self.assertEqual([engine.put(("t", 7)), len(engine.database)], [((7,),), 60])

    def test_too_many_open_rows(self):
        question = Question(make_rule((), ("t", "x"), barred=(("s", "x"),)))
        seventeen = Database(*[("t", number) for number in range(17)])
        with self.assertRaises(TooMany) as caught:
            Engine(question, GROWING, database=seventeen)
        self.assertEqual(caught.exception.limit, 16)
        engine = Engine(question, GROWING, database=seventeen - Database(("t", 5)))
        before = state(engine)
        with self.assertRaises(TooMany) as caught:
            engine.put(("t", 5))
        self.assertEqual((caught.exception.limit, state(engine)), (16, before))
        self.assertEqual(engine.seal(("s", 3)), ((),))
        # What is shown needs no search any more.
        self.assertEqual(engine.put(("t", 5)), ())

    def test_after(self):
        engine = Engine(ALONE, GROWING, database=ROWS)
        engine.seal(("s", 1))
        other = engine.after(("put", ("t", 9)), ("seal", (("s", "x"),), True, False), ("take", ("s", 5)))
        self.assertEqual([len(engine), len(other), engine.shown, other.shown, other.since((9,)), other.since((1,))],
                         [1, 4, ((1,),), ((1,), (9,)), 3, 1])
        self.assertEqual([other.back(many=4), other, len(engine)], [0, Engine(ALONE, GROWING, database=ROWS), 1])
        good = ("put", ("t", 9))
        for wrong in wrong_for(lambda value: value in (("put", ("r", 1)), ("put", ("r", True)), ("put", None), ("take", ("r", "x"))) and True):
            self.assert_error(InvalidOperation, engine.after, [good, wrong])
        for wrong in (("put",), ("put", ("t", 1), 1), ("seal", ("s", 1)), ("seal", [], True, True), ("seal", None, True, True),
                      ("seal", {}, 1, 1), ["put", ("t", 1)], ("base", ("t", 1)), (None, ("t", 1)), ("seal", (), True)):
            # The form of all moves comes ahead of what a move does.
            self.assert_error(InvalidOperation, engine.after, [("put", None), ("take", ("t", 1)), wrong])
        for moves, error in ((((("put", None)), ("take", ("t", 1))), InvalidRow), ((("take", ("t", 1)), ("put", None)), NotLet),
                             ((good, ("seal", (1,), None, True)), InvalidPattern), ((good, ("seal", (), None, True)), InvalidOperation),
                             ((good, ("seal", (), True, 1)), InvalidOperation), ((good, ("take", (1,))), InvalidRow)):
            self.assert_error(error, engine.after, list(moves))
        self.assertEqual([len(engine), engine.database, engine.shown], [1, ROWS, ((1,),)])

    def test_object(self):
        one, same = Engine(ALONE, GROWING, database=ROWS), Engine(ALONE, GROWING, database=ROWS)
        one.put(("t", 5))
        same.put(("t", 5))
        others = [Engine(ALONE, GROWING, database=ROWS), Engine(ALONE, GROWING, database=ROWS.with_rows(("t", 5))),
                  Engine(SPLIT, GROWING, database=ROWS).after(("put", ("t", 5))), Engine(ALONE, Licence(come="any", go="any"), database=ROWS).after(
                      ("put", ("t", 5))), Engine(ALONE, GROWING, database=ROWS).after(("put", ("t", 5)), ("put", ("t", 5)))]
        self.check_object(one, same, others)
        self.check_sealed(one, ("question", "licence", "database", "shown", "log"))
        self.assertEqual([one.question, one.licence, one.database, one.log], [ALONE, GROWING, ROWS.with_rows(("t", 5)), (("put", ("t", 5)),)])

    def test_errors(self):
        questions = (ALONE, wrong_objects(Question), InvalidQuestion)
        licences = (GROWING, wrong_objects(Licence), InvalidLicence)
        bases = (ROWS, wrong_for(lambda value: value is None or isinstance(value, Database)), InvalidDatabase)
        self.check_errors(lambda question, licence, base: Engine(question, licence, database=base), questions, licences, bases)
        self.assertRaises(TypeError, Engine, ALONE, GROWING, ROWS)
        engine = Engine(ALONE, Licence(come="any", go="any"), database=ROWS)
        self.check_errors(lambda row: engine.put(row), (("t", 1), wrong_rows(), InvalidRow))
        self.check_errors(lambda row: engine.take(row), (("t", 7), wrong_rows(), InvalidRow))
        flags = (True, wrong_for(lambda value: type(value) is bool), InvalidOperation)
        self.check_errors(lambda pattern, come, go: engine.after().seal(("t", 1), pattern, come=come, go=go),
                          (("t", "x"), wrong_patterns(), InvalidPattern), flags, flags)
        answers = ((1,), wrong_answers(1), InvalidAnswer)
        self.check_errors(engine.status, answers)
        self.check_errors(engine.since, answers)
        self.check_errors(lambda many: engine.after().back(many=many),
                          (0, wrong_for(lambda value: is_plain_integer(value) and value >= 0), InvalidNumber))
        left = engine.back(many=len(engine))
        self.assertEqual(left, 0)
        engine.put(("t", 6))
        for many in (2, 3, 10 ** 39):
            with self.assertRaises(NothingToUndo) as caught:
                engine.back(many=many)
            self.assertEqual((caught.exception.many, len(engine)), (many, 1))
        for value in every_value():
            self.assertRaises(TypeError, engine.back, value)


if __name__ == "__main__":
    unittest.main()
