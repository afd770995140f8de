"""Cases: what a case tree of a frozen rule is for.

A case is a triple (head, rows, away). Its tree is for the database of the rows, a licence under which all rows may
come but those that are away, and none may go, and the head as the answer.
"""

from firmrows.base.databases import Database
from firmrows.future.licences import Licence
from firmrows.papers.cases import case_search
from firmrows.papers.trees import is_right_tree


def spoiler_of(question, case):
    """Return a pair: a right case tree for a case and None, or None and a spoiler."""
    head, rows, away = case
    return case_search(question, Database.of(rows), Licence(come="any", shut=away), head)


def trees_for(question, cases):
    """Return a triple: the case trees for all cases, or None, a case, and a spoiler for it."""
    trees = []
    for case in cases:
        tree, spoiler = spoiler_of(question, case)
        if tree is None:
            return (None, case, spoiler)
        trees.append(tree)
    return (tuple(trees), None, None)


def are_trees_for(question, cases, value):
    """Return whether the value is a tuple of right case trees for the cases; without these it is not."""
    if cases is None or not isinstance(value, tuple) or len(value) != len(cases):
        return False
    for case, tree in zip(cases, value):
        head, rows, away = case
        if not is_right_tree(question, Database.of(rows), Licence(come="any", shut=away), head, tree):
            return False
    return True
