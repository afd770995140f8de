"""The shell: promise [20.1]."""

import random
import unittest

from firmrows.base.databases import Database
from firmrows.compare.within import comparison
from firmrows.early.early import is_early
from firmrows.errors import (
    InvalidAnswer, InvalidCommand, InvalidDatabase, InvalidOperation, NothingToUndo, NotLet, ParseError, TooMany, UnknownName,
)
from firmrows.future.licences import Licence
from firmrows.live.stores import Store
from firmrows.papers.out import status
from firmrows.text.formats import format_database, format_question, format_row
from firmrows.text.shell import Shell
from tests.chance import asked_database, asked_pattern, asked_row, lively_question
from tests.samples import ALONE, SPLIT, ErrorTests, every_value

ALL = Licence(come="any", go="any")
LINES = ("base shop t(1); t(2)", "ask all (x) if t(x), not s(x)")


def shop():
    shell = Shell()
    for line in LINES:
        shell.do(line)
    return shell


def answers_text(answers):
    return " ".join("(" + ", ".join(str(number) for number in answer) + ")" for answer in answers) or "none"


def some_command(source):
    """A line, and what does the same with a store: a function that returns the answer."""
    question = lively_question(source)
    one, other = source.choice(("a", "b")), source.choice(("a", "q", "put"))
    row, pattern, base = asked_row(source, question), asked_pattern(source, question), asked_database(source, question, 4)
    answer = tuple(source.randrange(2) for _ in range(source.randrange(3)))
    ok = lambda change: lambda store: f"ok {store.apply(change)}"
    return source.choice((
        (f"base {one} {format_database(base)}", ok(("base", one, base, ALL))), (f"ask {other} {format_question(question)}", ok(("ask", other, question))),
        (f"ask {other} {format_question(question)}", ok(("ask", other, question))), (f"base {one} empty", ok(("base", one, Database(), ALL))),
        (f"drop {one}", ok(("drop", one))), (f"forget {other}", ok(("forget", other))), (f"put {one} {format_row(row)}", ok(("put", one, row))),
        (f"put {one} {format_row(row)}", ok(("put", one, row))), (f"take {one} {format_row(row)}", ok(("take", one, row))),
        (f"shut {one} {format_row(pattern)}", ok(("seal", one, (pattern,), True, False))),
        (f"keep {one} {format_row(pattern)}", ok(("seal", one, (pattern,), False, True))),
        ("undo", lambda store: f"ok {store.undo()}"), ("redo", lambda store: f"ok {store.redo()}"),
        (f"answers {one} {other}", lambda store: answers_text(store.answers_at(one, other))),
        (f"firm {one} {other}", lambda store: answers_text(store.firm_at(one, other))),
        (f"status {one} {other} ({', '.join(map(str, answer))})", lambda store: status(
            *reversed((store.database_at(one), store.question_at(other))), store.licence_at(one), answer)),
        (f"rows {one}", lambda store: format_database(store.database_at(one))),
        (f"early {other}", lambda store: "early" if is_early(store.question_at(other)) else "late"),
        (f"compare {other} q", lambda store: comparison(store.question_at(other), store.question_at("q")))))


def outcome(call):
    """What a call returns, or the error that it raises."""
    try:
        return call()
    except (ValueError, KeyError, RuntimeError, LookupError, OverflowError) as error:
        return (type(error), getattr(error, "name", getattr(error, "row", getattr(error, "many", None))))


class ShellTests(ErrorTests):
    def test_drawn_commands(self):
        source = random.Random(205)
        told = []
        for _ in range(600):
            shell, store = Shell(), Store()
            for _ in range(source.randrange(5, 30)):
                line, same = some_command(source)
                expected = outcome(lambda: same(store))
                self.assertEqual(outcome(lambda: shell.do(line)), expected, line)
                self.assertEqual(shell.store(), store)
                told.append((line.partition(" ")[0], type(expected) is str))
        for word in ("base", "ask", "drop", "forget", "put", "take", "shut", "keep", "undo", "redo", "answers", "firm", "status", "rows", "early",
                     "compare"):
            self.assertGreater(told.count((word, True)), 10, word)
            self.assertGreater(told.count((word, False)), 5, word)

    def test_all_or_none(self):
        source = random.Random(206)
        told = []
        for _ in range(800):
            shell, store = shop(), Store()
            store.apply(("base", "shop", Database(("t", 1), ("t", 2)), ALL))
            store.apply(("ask", "all", ALONE))
            commands = [some_command(source) for _ in range(source.randrange(1, 6))]
            if source.random() < 0.5:
                commands = [("undo", lambda store: f"ok {store.undo()}")] + commands
            before = shell.store()
            expected = outcome(lambda: "\n".join([same(store) for _, same in commands]))
            found = outcome(lambda: shell.do_all("\n".join(line for line, _ in commands)))
            self.assertEqual(found, expected)
            told.append(type(expected) is str)
            self.assertEqual(shell.store(), store if told[-1] else before)
            if not told[-1]:
                self.assertEqual([shell.do("undo"), shell.do("undo"), shell.do("redo"), shell.do("redo")], ["ok 1", "ok 0", "ok 1", "ok 2"])
        self.assertGreater(min(told.count(True), told.count(False)), 30)

    def test_commands(self):
        shell = shop()
        for line, expected in (
                ("answers shop all", "(1) (2)"), ("firm shop all", "none"), ("status shop all (1)", "open"), ("rows shop", "t(1); t(2)"),
                ("early all", "late"), ("compare all all", "equal"), ("put shop s(2)", "ok 3"), ("answers shop all", "(1)"), ("shut shop s(y)", "ok 4"),
                ("keep shop t(1)", "ok 5"), ("firm shop all", "(1)"), ("status shop all (2)", "open"), ("status shop all (-5)", "open"),
                ("ask all (x) if t(x), not s(x)", None), ("undo", "ok 4"), ("undo", "ok 3"), ("redo", "ok 4"), ("take shop t(2)", "ok 5"), ("redo", None),
                ("drop shop", "ok 6"), ("rows shop", None), ("base shop empty", "ok 7"), ("rows shop", "empty"), ("answers shop all", "none"),
                ("forget all", "ok 8"), ("ask none none 2", "ok 9"), ("answers shop none", "none"), ("ask unit ()", "ok 10"), ("answers shop unit", "()"),
                ("status shop unit ()", "firm"), ("compare none unit", None), ("early none", "early")):
            if expected is None:
                self.assertIs(type(outcome(lambda: shell.do(line))), tuple)
            else:
                self.assertEqual(shell.do(line), expected)
        self.assertEqual(Shell().do_all("base a t(1)\nask a (x) if t(x)\nanswers a a\nundo\nredo"), "ok 1\nok 2\n(1)\nok 1\nok 2")
        self.assertEqual(Shell().do_all("base a empty"), "ok 1")

    def test_names_that_are_words_of_commands(self):
        shell = Shell()
        words = ("base", "ask", "drop", "forget", "put", "take", "shut", "keep", "undo", "redo", "answers", "firm", "status", "rows", "early",
                 "compare", "ok", "none", "empty", "if", "not", "any")
        for many, word in enumerate(words):
            self.assertEqual([shell.do(f"base {word} {word}(1)"), shell.do(f"ask {word} (x) if {word}(x)")], [f"ok {2 * many + 1}", f"ok {2 * many + 2}"])
            self.assertEqual([shell.do(f"answers {word} {word}"), shell.do(f"status {word} {word} (1)"), shell.do(f"rows {word}")],
                             ["(1)", "open", f"{word}(1)"])
        self.assertEqual(shell.store().bases, tuple(sorted(words)))

    def test_lines_that_are_no_commands(self):
        shell = shop()
        store = shell.store()
        right = ("base b t(1)", "ask q (x) if t(x)", "drop shop", "forget all", "put shop t(5)", "take shop t(1)", "shut shop t(x)", "keep shop t(x)",
                 "undo", "redo", "answers shop all", "firm shop all", "status shop all (1)", "rows shop", "early all", "compare all all")
        wrong = ["", " ", "\n", "what", "Undo", "undo 1", "put", "put shop", "put shop t(x)", "take shop t(x)", "put shop ", "put shop t(1) t(2)",
                 "put shop t(1); t(2)", "shut shop", "shut shop any", "keep shop none", "answers shop", "answers shop all all", "status shop all",
                 "status shop all (x)", "status shop all 1", "status shop all (1, 2, 3, 4)", "status shop all (01)", "status shop all (1) if a()",
                 "status shop all (1); (2)", "base b", "base b none", "base b t(x)", "base b t(2); t(1)", "base B t(1)", "base abcdefghi t(1)",
                 "base  t(1)", "ask q", "ask q none", "ask q none 4", "ask q (x)", "ask q (1); (1)", "ask  q ()", "drop", "drop shop shop", "rows", "early",
                 "early all all", "compare all", "compare all all all", "drop SHOP", "drop t(1)", "drop 1", "undo\n", "rows shop\nrows shop", "do undo"]
        for line in right:
            wrong += [" " + line, line + " ", line.replace(" ", "  ", 1) if " " in line else line + "  ", line + "\n", line.upper(), line + "\t",
                      line.replace(" ", "\t", 1) if " " in line else "\t" + line]
            self.assertFalse(isinstance(outcome(lambda: shop().do(line)), tuple) and line != "redo")
        for line in wrong:
            self.assert_error(InvalidCommand, shell.do, [line])
            if "\n" not in line:
                self.assert_error(InvalidCommand, shell.do_all, [line])
                self.assert_error(InvalidCommand, shell.do_all, ["rows shop\n" + line])
        for text in ("", "rows shop\n", "\nrows shop", "rows shop\n\nrows shop", "drop shop\nwhat", "drop shop\r\nrows shop"):
            self.assert_error(InvalidCommand, shell.do_all, [text])
        self.assertEqual([shell.store(), shell.do("undo")], [store, "ok 1"])

    def test_order_of_errors(self):
        shell = shop()
        shell.do("shut shop s(x)")
        shell.do("ask wide (x, y) if r(x, y)")
        full = "; ".join(f"t({number})" for number in range(10, 70))
        shell.do(f"base full {full}")
        for line, error in (("put nobody t(x)", InvalidCommand), ("put nobody t(1)", UnknownName), ("put shop s(1)", NotLet), ("base shop t(1)", InvalidOperation),
                            ("base shop t(x)", InvalidCommand), ("ask all (x)", InvalidCommand), ("ask all ()", InvalidOperation), ("drop all", UnknownName),
                            ("forget shop", UnknownName), ("answers all shop", UnknownName), ("answers shop shop", UnknownName), ("rows all", UnknownName),
                            ("status shop all (1, 2)", InvalidAnswer), ("status all all (1, 2)", UnknownName), ("status shop shop (1, 2)", UnknownName),
                            ("compare all wide", InvalidOperation), ("compare wide nobody", UnknownName), ("put full t(1)", InvalidDatabase),
                            ("redo", NothingToUndo), ("early shop", UnknownName)):
            self.assert_error(error, shell.do, [line])
            self.assert_error(error, shell.do_all, ["rows shop\n" + line + "\nwhat"])
        for line, name in (("answers all shop", "all"), ("compare all nobody", "nobody"), ("compare nobody nothing", "nobody")):
            with self.assertRaises(UnknownName) as caught:
                shell.do(line)
            self.assertEqual(caught.exception.name, name)
        seventeen = "; ".join(f"t({number})" for number in range(10, 27))
        shell.do(f"base many {seventeen}")
        shell.do("ask one () if t(x), not s(x)")
        self.assert_error(TooMany, shell.do, ["firm many one"])

    def test_store_of_a_shell(self):
        shell = shop()
        store = shell.store()
        self.assertEqual([store.bases, store.questions, len(store), store.log, Shell().store()], [("shop",), ("all",), 0, (), Store()])
        self.assertEqual([store.licence_at("shop"), store.question_at("all"), store.database_at("shop")], [ALL, ALONE, Database(("t", 1), ("t", 2))])
        store.apply(("drop", "shop"), ("ask", "split", SPLIT))
        self.assertEqual([shell.do("rows shop"), shell.store().questions], ["t(1); t(2)", ("all",)])
        self.assertIs(type(outcome(lambda: shell.do("forget split"))), tuple)

    def test_no_strings(self):
        shell = shop()
        for value in every_value():
            if type(value) is not str:
                self.assert_error(ParseError, shell.do, [value])
                self.assert_error(ParseError, shell.do_all, [value])
            else:
                self.assert_error(InvalidCommand, shell.do, [value])
        self.assertEqual(shell.do("undo"), "ok 1")


if __name__ == "__main__":
    unittest.main()
