"""Cases: what a case tree of a frozen rule is for.

A case is a triple (head, rows, away). Its tree is for the database of the rows, a licence under which all rows may
come but those that are away, and none may go, and the head as the answer.
"""

from firmrows.ask.rules import variables_in
from firmrows.errors import TooMany
from firmrows.papers.cases import CaseSearch
from firmrows.papers.grounds import FrozenGround
from firmrows.papers.seekers import seekers_for, tables_of
from firmrows.papers.trees import TreeCheck, is_tree, molds_of

# Among so few rows a match is found sooner without a plan.
FEW_ROWS = 14


class Cases:
    """The cases of a question. What is made ready for a head is kept for other cases with this head."""

    def __init__(self, question):
        self._question = question
        self._seekers = {}

    def seekers(self, head):
        """Return the dict of what looks for matches with a head."""
        if head not in self._seekers:
            self._seekers[head] = seekers_for(self._question, head)
        return self._seekers[head]

    def has(self, head, rows):
        """Return whether the question has a head as an answer in a database of few rows."""
        have = {row: True for row in rows}
        tables = tables_of(rows)
        seekers = self.seekers(head)
        for index in seekers:
            if seekers[index].found(have, tables) is not None:
                return True
        return False

    def started(self, case, most):
        """Return a search for a right case tree for a case; among more rows than that it uses plans."""
        head, rows, away = case
        return CaseSearch(self._question, head, FrozenGround(rows, away), self.seekers(head), most)

    def quick(self, case, leaf):
        """Return what `search` returns. TooMany is raised sooner, since not the first matches are found first."""
        search = self.started(case, FEW_ROWS)
        if leaf is not None:
            index, integers = leaf
            names = variables_in(self._question.rules[index])
            search.know(index, dict(zip(names, integers)))
        tree = search.tree(0, 0)
        return (tree, search.spoiler())

    def search(self, case, leaf):
        """Return a pair: a right case tree for a case and None, or None and a spoiler.

        The leaf is None, or a pair (index, integers) that tells of a match of the question in the rows.
        """
        try:
            return self.quick(case, leaf)
        except TooMany:
            search = self.started(case, 0)
            tree = search.tree(0, 0)
            return (tree, search.spoiler())

    def trees(self, cases, leaves):
        """Return a triple: the case trees for all cases, or None, a case, and a spoiler for it."""
        trees = []
        for case, leaf in zip(cases, leaves):
            tree, spoiler = self.search(case, leaf)
            if tree is None:
                return (None, case, spoiler)
            trees.append(tree)
        return (tuple(trees), None, None)


def are_trees_for(question, cases, value):
    """Return whether the value is a tuple of right case trees for the cases; without these it is not."""
    if cases is None or not isinstance(value, tuple) or len(value) != len(cases):
        return False
    molds = molds_of(question)
    for case, tree in zip(cases, value):
        head, rows, away = case
        if not is_tree(tree) or not TreeCheck(molds, FrozenGround(rows, away), head).is_right(tree, (), ()):
            return False
    return True
