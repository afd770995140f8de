"""Where the functions, classes and methods of the interface stand, and how they are called [0.3]."""

import importlib
import inspect
import unittest

FUNCTIONS = {
    "firmrows.base.rows": ("is_name(value)", "is_row(value)", "is_pattern(value)"),
    "firmrows.base.patterns": (
        "blanks_of(pattern)", "plain(pattern)", "fits(pattern, row)", "filled(pattern, numbers)",
        "covers(pattern, other)", "common(pattern, other)",
    ),
    "firmrows.ask.questions": (
        "make_rule(head, *wanted, barred=(), unlike=())", "is_rule(value)", "variables_of(rule)",
    ),
    "firmrows.ask.matches": (
        "matches(question, database)", "matches_of(question, database, answer)",
        "first_match(question, database, answer)", "is_match(question, database, index, value)",
        "answer_of(question, index, numbers)", "rows_of(question, index, numbers)",
    ),
    "firmrows.future.futures": (
        "can_change(database, licence, row)", "changed(database, licence, *rows)",
        "is_future(database, licence, value)", "barrier(database, licence, other)",
        "futures(database, licence, rows)",
    ),
    "firmrows.papers.trees": (
        "is_tree(value)", "depth(tree)", "asked(tree)", "leaf_at(tree, database)",
        "is_case_tree(question, database, licence, answer, value)",
    ),
    "firmrows.papers.firm": (
        "open_rows(question, database, licence, answer)", "firm_paper(question, database, licence, answer)",
        "is_firm_paper(question, database, licence, answer, value)",
        "is_spoiler(question, database, licence, answer, value)", "firm_answers(question, database, licence)",
    ),
    "firmrows.papers.bars": (
        "is_bars(value)", "reason_at(tree, numbers)",
        "is_bar_tree(question, database, licence, answer, index, value)",
    ),
    "firmrows.papers.out": (
        "out_paper(question, database, licence, answer)",
        "is_out_paper(question, database, licence, answer, value)",
        "is_maker(question, database, licence, answer, value)", "can_be(question, database, licence, answer)",
        "status(question, database, licence, answer)", "statuses(question, database, licence)",
    ),
    "firmrows.papers.counts": (
        "share(question, database, licence, answer)", "deciders(question, database, licence, answer)",
        "weights(question, database, licence, answer)", "least_tree(question, database, licence, answer)",
    ),
    "firmrows.compare.frozen": ("frozen_rules(question, *, named=())",),
    "firmrows.compare.within": (
        "within_paper(question, other)", "is_within_paper(question, other, value)", "comparison(question, other)",
    ),
    "firmrows.compare.needless": (
        "parts_of(question)", "rest_of(question, part)", "part_paper(question, part)", "needless(question)",
        "trimmed(question)",
    ),
    "firmrows.compare.named": (
        "fresh(question)", "copy_of(question, number)", "mattering(question)", "matter_paper(question, number)",
        "is_matter_paper(question, number, value)",
    ),
    "firmrows.early.early": (
        "early_paper(question)", "is_early_paper(question, value)", "is_early(question)",
        "kept_answers(question, database)",
    ),
    "firmrows.early.shapes": (
        "is_shape(value)", "findings(shape, database, answer, *, fixed=())",
        "is_finding(shape, database, answer, value, *, fixed=())", "is_found_in(shape, other, *, fixed=())",
        "are_alike(shape, other, *, fixed=())", "symmetries(shape, *, fixed=())", "normal_form(shape, *, fixed=())",
        "found_answers(shapes, database, *, fixed=())",
    ),
    "firmrows.early.least": (
        "least_set(question)", "reduced(shapes, *, fixed=())", "set_or(shapes, others, *, fixed=())",
        "set_and(shapes, others, *, fixed=())", "is_set_within(shapes, others, *, fixed=())",
        "question_of(shapes, *, fixed=(), width=None)",
    ),
    "firmrows.live.edits": (
        "frozen_pairs(question, pattern)", "loss_paper(question, pattern)", "is_loss_paper(question, pattern, value)",
        "gain_paper(question, pattern)", "is_gain_paper(question, pattern, value)", "effects(question, edit)",
        "is_deaf(question, pattern)", "edit_paper(question, edit, answer)", "is_edit_paper(question, edit, answer, value)",
    ),
    "firmrows.live.networks": ("trap(paper, way)",),
    "firmrows.text.formats": tuple(f"format_{word}({word})" for word in ("row", "rule", "question", "database", "licence", "shape"))
    + tuple(f"parse_{word}(text)" for word in ("row", "rule", "question", "database", "licence", "shape")),
}
CLASSES = {
    ("firmrows.base.databases", "Database"): (
        ("rows", "numbers", "tables"),
        ("of(rows)", "with_rows(*rows)", "without_rows(*rows)", "fitting(pattern)", "cut(numbers)",
         "moved(numbers)", "is_within(value)"),
        ("__init__", "__or__", "__and__", "__sub__", "__xor__", "__contains__", "__len__", "__eq__", "__str__"),
    ),
    ("firmrows.ask.questions", "Question"): (
        ("rules", "width", "named"),
        ("of(rules, *, width=None)", "with_rule(rule)", "without_rule(index)", "moved(numbers)"),
        ("__init__", "__call__", "__or__", "__len__", "__eq__", "__str__"),
    ),
    ("firmrows.future.licences", "Licence"): (
        ("come", "go", "shut", "kept", "numbers"),
        ("may_come(row)", "may_go(row)", "sealed(*patterns, come=True, go=True)"),
        ("__init__", "__eq__", "__str__"),
    ),
    ("firmrows.live.caches", "Cache"): (
        ("question", "answers", "is_whole"), ("fill(database)", "add(*answers)", "tell(edit)"),
        ("__init__", "__len__", "__contains__", "__eq__", "__str__"),
    ),
    ("firmrows.live.engines", "Engine"): (
        ("question", "licence", "database", "shown", "log"),
        ("put(row)", "take(row)", "seal(*patterns, come=True, go=True)", "status(answer)", "since(answer)", "back(*, many=1)",
         "after(*moves)"),
        ("__init__", "__len__", "__eq__", "__str__"),
    ),
    ("firmrows.live.networks", "Network"): (
        ("names", "whole", "shown", "waiting"), ("at(name)", "shown_by(name)", "bring(name, *rows)", "finish()", "twin()"),
        ("__init__", "__len__", "__eq__", "__str__"),
    ),
    ("firmrows.live.stores", "Store"): (
        ("bases", "questions", "log"),
        ("apply(*changes)", "apply_all(changes)", "undo(*, many=1)", "redo(*, many=1)", "during(changes, call)", "database_at(name)",
         "licence_at(name)", "question_at(name)", "answers_at(base, name)", "firm_at(base, name)", "papers_at(base, name, answer)",
         "twin()"),
        ("__init__", "__len__", "__eq__", "__str__"),
    ),
    ("firmrows.text.shell", "Shell"): ((), ("do(line)", "do_all(text)", "store()"), ("__init__",)),
}


class InterfaceTests(unittest.TestCase):
    def test_functions(self):
        for place, texts in FUNCTIONS.items():
            module = importlib.import_module(place)
            for text in texts:
                with self.subTest(place=place, text=text):
                    name = text.partition("(")[0]
                    function = getattr(module, name)
                    self.assertTrue(inspect.isfunction(function))
                    self.assertEqual(function.__module__, place)
                    self.assertEqual(name + str(inspect.signature(function)), text)

    def test_classes(self):
        for (place, name), (properties, methods, doubles) in CLASSES.items():
            kind = getattr(importlib.import_module(place), name)
            self.assertEqual(kind.__module__, place)
            for part in properties:
                with self.subTest(name=name, part=part):
                    self.assertIsInstance(vars(kind)[part], property)
            for part in doubles:
                with self.subTest(name=name, part=part):
                    self.assertIn(part, vars(kind))
            for text in methods:
                with self.subTest(name=name, text=text):
                    part = text.partition("(")[0]
                    self.assertIn(part, vars(kind))
                    told = str(inspect.signature(getattr(kind, part))).replace("(self, ", "(").replace("(self)", "()")
                    self.assertEqual(part + told, text)

    def test_signatures_of_the_classes(self):
        from firmrows.ask.questions import Question
        from firmrows.base.databases import Database
        from firmrows.future.licences import Licence
        from firmrows.live.caches import Cache
        from firmrows.live.engines import Engine
        from firmrows.live.networks import Network
        from firmrows.live.stores import Store
        from firmrows.text.shell import Shell
        self.assertEqual(str(inspect.signature(Database)), "(*rows)")
        self.assertEqual(str(inspect.signature(Question)), "(*rules, width=None)")
        self.assertEqual(str(inspect.signature(Licence)), "(*, come=(), go=(), shut=(), kept=())")
        self.assertEqual(str(inspect.signature(Cache)), "(question)")
        self.assertEqual(str(inspect.signature(Engine)), "(question, licence, *, database=None)")
        self.assertEqual(str(inspect.signature(Network)), "(way, parts)")
        self.assertEqual([str(inspect.signature(Store)), str(inspect.signature(Shell))], ["()", "()"])


if __name__ == "__main__":
    unittest.main()
