"""Stores: promise [20.1]."""

import random
import unittest

from firmrows.ask.questions import Question
from firmrows.base.databases import Database
from firmrows.errors import (
    InvalidAnswer, InvalidDatabase, InvalidEdit, InvalidLicence, InvalidNumber, InvalidOperation, InvalidPattern, InvalidQuestion,
    InvalidRow, NothingToUndo, NotLet, TooMany, UnknownName,
)
from firmrows.future.licences import Licence
from firmrows.live.engines import Engine
from firmrows.live.stores import Store
from firmrows.papers.firm import firm_answers, firm_paper
from firmrows.papers.out import is_out_paper, out_paper
from tests import oracle
from tests.chance import asked_database, asked_licence, asked_pattern, asked_row, lively_question
from tests.samples import (
    ALONE, GROWING, ROWS, SPLIT, ObjectTests, every_value, is_plain_integer, looks_like_name, wrong_answers, wrong_for, wrong_objects,
    wrong_patterns, wrong_rows,
)

NAMES = ("a", "b", "shop", "put")
LENGTHS = {"base": 4, "ask": 3, "drop": 2, "forget": 2, "put": 3, "take": 3, "seal": 5}


class Model:
    """A store in the plainest way: each group keeps copies of all."""

    def __init__(self):
        self.bases, self.questions, self.done, self.undone = {}, {}, [], []

    def copy(self):
        return dict(self.bases), dict(self.questions)

    def change(self, change):
        word, name = change[:2]
        if word in ("base", "ask"):
            table = self.bases if word == "base" else self.questions
            if not looks_like_name(name) or name in table:
                raise InvalidOperation
            table[name] = change[2:] if word == "base" else change[2]
            return
        table = self.questions if word == "forget" else self.bases
        if name not in table:
            raise UnknownName(name)
        if word in ("drop", "forget"):
            del table[name]
            return
        base, licence = table[name]
        if word == "seal":
            table[name] = (base, licence.sealed(*change[2], come=change[3], go=change[4]))
        elif (change[2] in base) is not (word == "put"):
            if not oracle.can_change(set(base.rows), licence, change[2]):
                raise NotLet(change[2])
            table[name] = (base ^ Database(change[2]), licence)

    def apply(self, changes):
        before = self.copy()
        try:
            for change in changes:
                self.change(change)
        except (RuntimeError, KeyError, ValueError):
            self.bases, self.questions = before
            raise
        if changes:
            self.done.append((changes, before))
            self.undone = []

    def back(self, many):
        for _ in range(many):
            changes, before = self.done.pop()
            self.undone.append((changes, self.copy()))
            self.bases, self.questions = dict(before[0]), dict(before[1])

    def again(self, many):
        for _ in range(many):
            changes, later = self.undone.pop()
            self.done.append((changes, self.copy()))
            self.bases, self.questions = dict(later[0]), dict(later[1])


def some_change(source):
    question = lively_question(source)
    name = source.choice(NAMES)
    return source.choice((
        lambda: ("base", name, asked_database(source, question, 4), asked_licence(source, question)), lambda: ("ask", name, question),
        lambda: ("drop", name), lambda: ("forget", name), lambda: ("put", name, asked_row(source, question)),
        lambda: ("put", name, asked_row(source, question)), lambda: ("take", name, asked_row(source, question)),
        lambda: ("seal", name, tuple(asked_pattern(source, question) for _ in range(source.randrange(3))), source.random() < 0.5,
                 source.random() < 0.5), lambda: ("base", "NO", ROWS, GROWING), lambda: ("base", name, ROWS, GROWING),
        lambda: ("base", name, ROWS, Licence(come="any", go="any"))))()


def state(store):
    return (store.bases, store.questions, store.log, len(store), str(store), [store.database_at(name) for name in store.bases],
            [store.licence_at(name) for name in store.bases], [store.question_at(name) for name in store.questions])


def shop():
    store = Store()
    store.apply(("base", "shop", ROWS, GROWING), ("ask", "alone", ALONE), ("ask", "shop", SPLIT))
    return store


class StoreTests(ObjectTests):
    def check_same(self, store, model):
        self.assertEqual((store.bases, store.questions), (tuple(sorted(model.bases)), tuple(sorted(model.questions))))
        for name, (base, licence) in model.bases.items():
            self.assertEqual((store.database_at(name), store.licence_at(name)), (base, licence))
        for name, question in model.questions.items():
            self.assertEqual(store.question_at(name), question)
        self.assertEqual((len(store), store.log), (len(model.done), tuple(changes for changes, _ in model.done)))
        self.assertEqual(str(store), f"store of {len(model.bases)} bases, {len(model.questions)} questions")

    def test_drawn_groups(self):
        source = random.Random(201)
        told = []
        for _ in range(500):
            store, model = Store(), Model()
            for _ in range(source.randrange(4, 25)):
                step = source.random()
                before = state(store)
                if step < 0.15:
                    many = source.randrange(4)
                    if many > len(model.done):
                        with self.assertRaises(NothingToUndo) as caught:
                            store.undo(many=many)
                        self.assertEqual((caught.exception.many, state(store)), (many, before))
                    else:
                        model.back(many)
                        self.assertEqual(store.undo(many=many), len(model.done))
                elif step < 0.3:
                    many = source.randrange(3)
                    if many > len(model.undone):
                        with self.assertRaises(NothingToUndo) as caught:
                            store.redo(many=many)
                        self.assertEqual((caught.exception.many, state(store)), (many, before))
                    else:
                        model.again(many)
                        told.append("again" if many else "none")
                        self.assertEqual(store.redo(many=many), len(model.done))
                else:
                    changes = tuple(some_change(source) for _ in range(source.choice((0, 1, 1, 1, 2, 3))))
                    error = None
                    try:
                        model.apply(changes)
                    except (RuntimeError, KeyError, ValueError) as caught:
                        error = type(caught)
                    call = (lambda: store.apply(*changes)) if source.random() < 0.5 else (lambda: store.apply_all(changes))
                    told.append(error)
                    if error:
                        self.assert_error(error, call, [])
                        self.assertEqual(state(store), before)
                    else:
                        self.assertEqual(call(), len(model.done))
                self.check_same(store, model)
            self.check_during(source, store)
        for word, many in (("again", 40), (None, 300), (UnknownName, 100), (NotLet, 20), (InvalidOperation, 50)):
            self.assertGreater(told.count(word), many)

    def check_during(self, source, store):
        before, twin = state(store), store.twin()
        self.assertEqual((twin == store, len(twin), twin.log), (True, 0, ()))

        def call(inner):
            self.assertIs(inner, store)
            if inner.bases:
                inner.apply(("drop", inner.bases[0]))
            inner.undo(many=source.randrange(len(inner) + 1))
            inner.during((("ask", "inner", SPLIT),), lambda deeper: deeper.undo())
            if source.random() < 0.3:
                raise LookupError("x")
            return len(inner)
        try:
            store.during((("ask", "during", ALONE), ("base", "during", ROWS, GROWING)), call)
        except LookupError:
            pass
        self.assertEqual(state(store), before)
        self.assertEqual(store, twin)

    def test_a_change_is_judged_behind_those_ahead_of_it(self):
        store = Store()
        self.assertEqual(store.apply(("base", "a", Database(), GROWING), ("put", "a", ("t", 1)), ("seal", "a", (("t", "x"),), True, True),
                                     ("put", "a", ("t", 1)), ("drop", "a"), ("base", "a", ROWS, Licence(go="any")), ("take", "a", ("t", 1))), 1)
        self.assertEqual(store.database_at("a"), ROWS.without_rows(("t", 1)))
        for changes, error in (((("put", "a", ("t", 1)),), NotLet), ((("drop", "a"), ("put", "a", ("t", 1))), UnknownName),
                               ((("forget", "a"),), UnknownName), ((("base", "a", ROWS, GROWING),), InvalidOperation),
                               ((("ask", "a", ALONE), ("forget", "a"), ("ask", "a", SPLIT), ("ask", "a", SPLIT)), InvalidOperation),
                               ((("take", "a", ("t", 2)), ("take", "a", ("t", 2)), ("seal", "a", (("s", "x"),), False, True),
                                 ("take", "a", ("s", 2))), NotLet)):
            before = state(store)
            self.assert_error(error, store.apply, list(changes))
            self.assertEqual(state(store), before)
        self.assertEqual(store.apply(("ask", "a", ALONE), ("take", "a", ("t", 2)), ("take", "a", ("t", 2))), 2)

    def test_undo_and_redo(self):
        store = shop()
        store.apply(("put", "shop", ("t", 5)))
        store.apply(("forget", "alone"))
        self.assertEqual([store.undo(many=2), store.redo(), store.undo(), store.redo(many=2), store.undo(many=0), store.redo(many=0)],
                         [1, 2, 1, 3, 3, 3])
        store.undo(many=2)
        before = state(store)
        self.assert_error(UnknownName, store.apply, [("drop", "nobody")])
        self.assertEqual([store.apply(), store.apply_all(()), state(store) == before, store.redo(), store.undo()], [1, 1, True, 2, 1])
        self.assertEqual([store.apply(("ask", "new", SPLIT)), store.undo(), store.questions], [2, 1, ("alone", "shop")])
        with self.assertRaises(NothingToUndo) as caught:
            store.redo(many=2)
        self.assertEqual(caught.exception.many, 2)
        self.assertEqual([store.undo(), store.bases, store.questions, len(store), bool(store)], [0, (), (), 0, False])

    def test_during(self):
        store = shop()
        store.apply(("put", "shop", ("t", 5)))
        store.undo()
        before = state(store)
        self.assertEqual(store.during((("put", "shop", ("t", 7)),), lambda inner: (len(inner), inner.answers_at("shop", "alone"))),
                         (2, ((1,), (7,))))
        self.assertEqual([state(store), store.redo(), store.undo()], [before, 2, 1])
        self.assertEqual(store.during((), lambda inner: inner.redo()), 2)
        self.assertEqual([state(store), store.redo(), store.undo()], [before, 2, 1])

        def deep(inner):
            self.assertEqual(inner.during((("drop", "shop"),), lambda one: (one.undo(), one.bases)), (2, ("shop",)))
            return inner.questions
        self.assertEqual(store.during((("forget", "alone"),), deep), ("shop",))
        for error in (ValueError, KeyError, TypeError, KeyboardInterrupt, NotLet):
            def trouble(inner):
                inner.undo(many=len(inner))
                raise error("x")
            self.assertRaises(error, store.during, (("forget", "alone"),), trouble)
            self.assertEqual([state(store), store.redo(), store.undo()], [before, 2, 1])
        seen = []
        for changes, error in ((None, InvalidOperation), ([], InvalidOperation), ((("put", "shop", ("t", True)),), InvalidRow),
                               ((("forget", "alone"), ("forget", "alone")), UnknownName)):
            self.assert_error(error, lambda given: store.during(given, seen.append), [changes])
        self.assertEqual([seen, state(store)], [[], before])

    def test_what_is_at_a_base(self):
        source = random.Random(202)
        many = 0
        for _ in range(400):
            question = lively_question(source)
            base, licence = asked_database(source, question, 6), asked_licence(source, question)
            store = Store()
            store.apply(("base", "b", base, licence), ("ask", "q", question))
            try:
                self.assertEqual(store.firm_at("b", "q"), firm_answers(question, base, licence))
            except TooMany:
                continue
            self.assertEqual(store.answers_at("b", "q"), question(base))
            for answer in question(base):
                firm, out = store.papers_at("b", "q", answer)
                self.assertEqual((firm, out), (firm_paper(question, base, licence, answer), out_paper(question, base, licence, answer)))
                self.assertIs(is_out_paper(question, base, licence, answer, out), True)
                many += 1
        self.assertGreater(many, 100)
        store = Store()
        seventeen = Database(*[("t", number) for number in range(17)])
        store.apply(("base", "b", seventeen, GROWING), ("ask", "q", Question(((), (("t", "x"),), (("s", "x"),), ()))))
        for call in (lambda: store.firm_at("b", "q"), lambda: store.papers_at("b", "q", ())):
            with self.assertRaises(TooMany) as caught:
                call()
            self.assertEqual(caught.exception.limit, 16)
        self.assertEqual(store.apply(("put", "b", ("t", 17))), 2)

    def test_as_an_engine(self):
        store, engine = shop(), Engine(ALONE, GROWING, database=ROWS)
        for word, given in (("put", ("t", 9)), ("take", ("t", 1)), ("put", ("t", 1)), ("take", ("t", 77))):
            errors = []
            for call in (lambda: store.apply((word, "shop", given)), lambda: getattr(engine, word)(given)):
                try:
                    call()
                except NotLet as error:
                    errors.append(error.row)
            self.assertIn(errors, ([], [given, given]))
        engine.seal(("s", 9), go=False)
        store.apply(("seal", "shop", (("s", 9),), True, False))
        self.assertEqual([store.database_at("shop"), store.licence_at("shop"), store.firm_at("shop", "alone")],
                         [engine.database, engine.licence, engine.shown])

    def test_object(self):
        one, same = shop(), Store()
        for change in (("ask", "alone", ALONE), ("ask", "shop", SPLIT), ("base", "shop", ROWS, GROWING)):
            same.apply(change)
        other = shop()
        other.apply(("put", "shop", ("t", 3)))
        less = shop()
        less.apply(("forget", "alone"))
        licensed = shop()
        licensed.apply(("seal", "shop", (("t", 1),), True, False))
        self.check_object(one, same, [Store(), other, less, licensed])
        self.check_object(one, one.twin(), [])
        self.check_sealed(one, ("bases", "questions", "log"))
        self.assertEqual([str(one), len(same), bool(Store()), Store() == Store()], ["store of 1 bases, 2 questions", 3, False, True])
        twin = one.twin()
        twin.apply(("drop", "shop"))
        self.assertEqual([one.bases, len(one), twin.bases, len(twin)], [("shop",), 1, (), 1])
        self.assertEqual(one.log, ((("base", "shop", ROWS, GROWING), ("ask", "alone", ALONE), ("ask", "shop", SPLIT)),))

    def test_forms_of_changes(self):
        store = shop()
        before = state(store)

        def looks_like_change(value):
            return type(value) is tuple and value and type(value[0]) is str and LENGTHS.get(value[0]) == len(value)
        for value in wrong_for(looks_like_change) + [("base", "x", ROWS), ("ask", "x"), ("put", "shop"), ("seal", "shop", (), True), ("drop",),
                                                     ["drop", "shop"], ("forget", "alone", 1), ("Put", "shop", ("t", 1)), ("undo", 1)]:
            self.assert_error(InvalidEdit, store.apply, [("put", "shop", ("t", 4)), value])
            self.assertEqual(state(store), before)
        for patterns in ([], None, "x", ["s", "x"], {}, 1, True):
            # Its form comes ahead of the name.
            self.assert_error(InvalidEdit, store.apply, [("seal", "nobody", patterns, None, None)])
        for value in wrong_for(lambda value: type(value) is tuple):
            self.assert_error(InvalidOperation, store.apply_all, [value])
        self.assertEqual(state(store), before)

    def test_errors_of_changes(self):
        store = shop()
        new = ("new", wrong_for(looks_like_name), InvalidOperation)
        known = ("shop", wrong_for(lambda value: type(value) is str and value == "shop"), UnknownName)
        bases, licences = (ROWS, wrong_objects(Database), InvalidDatabase), (GROWING, wrong_objects(Licence), InvalidLicence)
        questions = (ALONE, wrong_objects(Question), InvalidQuestion)
        rows = (("t", 1), wrong_rows(), InvalidRow)
        flags = (True, wrong_for(lambda value: type(value) is bool), InvalidOperation)
        for word, parameters in (("base", (new, bases, licences)), ("ask", (new, questions)), ("drop", (known,)), ("forget", (known,)),
                                 ("put", (known, rows)), ("take", (known, (("t", 8),) + rows[1:]))):
            self.check_errors(lambda *given: shop().apply((word,) + given), *parameters)
        self.check_errors(lambda name, pattern, come, go: shop().apply(("seal", name, (("t", 1), pattern), come, go)),
                          known, (("t", "x"), wrong_patterns(), InvalidPattern), flags, flags)
        for word, name in (("base", "shop"), ("ask", "alone")):
            self.assert_error(InvalidOperation, store.apply, [(word, name) + (None,) * (LENGTHS[word] - 2)])
        for name in known[1]:
            with self.assertRaises(UnknownName) as caught:
                store.apply(("put", name, None))
            self.assertIs(caught.exception.name, name)
        full = Database(*[("t", number) for number in range(60)])
        store.apply(("base", "full", full, GROWING.sealed(("s", "x"))))
        self.assert_error(InvalidDatabase, store.apply, [("put", "full", ("t", 60))])
        self.assert_error(NotLet, store.apply, [("put", "full", ("s", 60))])
        self.assertEqual(store.apply(("put", "full", ("t", 59))), 3)

    def test_errors(self):
        store = shop()
        bases = ("shop", wrong_for(lambda value: type(value) is str and value == "shop"), UnknownName)
        names = ("alone", wrong_for(lambda value: type(value) is str and value in ("alone", "shop")), UnknownName)
        answers = ((1,), wrong_answers(1), InvalidAnswer)
        for function, parameters in ((store.database_at, (bases,)), (store.licence_at, (bases,)), (store.question_at, (names,)),
                                     (store.answers_at, (bases, names)), (store.firm_at, (bases, names)),
                                     (store.papers_at, (bases, names, answers))):
            self.check_errors(function, *parameters)
            for name in parameters[0][1]:
                with self.assertRaises(UnknownName) as caught:
                    function(name, *[None] * (len(parameters) - 1))
                self.assertIs(caught.exception.name, name)
        number = (0, wrong_for(lambda value: is_plain_integer(value) and value >= 0), InvalidNumber)
        for function in (store.undo, store.redo):
            self.check_errors(lambda many: function(many=many), number)
            for value in every_value():
                self.assertRaises(TypeError, function, value)
        for function, many in ((store.undo, 2), (store.redo, 1), (store.undo, 10 ** 39), (store.redo, 10 ** 39)):
            with self.assertRaises(NothingToUndo) as caught:
                function(many=many)
            self.assertEqual(caught.exception.many, many)
        self.assertEqual(state(store), state(shop()))


if __name__ == "__main__":
    unittest.main()
