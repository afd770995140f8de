"""The matches of an answer in the futures that differ from a database only in open rows."""

from firmrows.ask.rules import variables_in
from firmrows.base.patterns import bound
from firmrows.future.futures import is_changeable
from firmrows.papers.chances import rules_for
from firmrows.papers.trees import MATCH
from firmrows.papers.ways import Ways, parts_of_rule


class Matches(Ways):
    """The matches in these futures; each open row has the bit of its position."""

    def __init__(self, database, licence, opened):
        Ways.__init__(self)
        self._bits = {row: 1 << k for k, row in enumerate(opened)}
        # A row that can change without being open stands in no chance, so it is wanted in vain.
        firm = [row for row in database.rows if not is_changeable(database, licence, row)]
        self._rows = tuple(firm) + opened
        self._there = {row: True for row in database.rows}
        self._fitting = {}

    def fitting_rows(self, pattern):
        """Return the list of dicts that take a pattern to the rows that can be wanted ones."""
        if pattern not in self._fitting:
            found = [bound(pattern, row) for row in self._rows]
            self._fitting[pattern] = [table for table in found if table is not None]
        return self._fitting[pattern]

    def wanted_bits(self, pattern):
        """Return the bit of a wanted row, 0 if it has none, or None if there is no such row."""
        return self._bits.get(pattern, 0) if len(self.fitting_rows(pattern)) > 0 else None

    def barred_bits(self, pattern):
        """Return the bit of a barred row, 0 if it has none, or None if it is always there."""
        if pattern in self._bits:
            return self._bits[pattern]
        return None if pattern in self._there else 0

    def choices(self, pattern, name):
        """Return the list of the integers that a variable of a wanted pattern can be."""
        return list({table[name]: True for table in self.fitting_rows(pattern)})


def terms_of(question, database, licence, answer, opened):
    """Return a dict from pairs of bits to leaves of case trees.

    Exactly those of the futures have the answer that have, for one of the pairs, all open rows with the first
    bits and none with the second ones; then they have the match of its leaf.
    """
    found = Matches(database, licence, opened)
    terms = {}
    for index, given, rule in rules_for(question, answer):
        start = found.rest(parts_of_rule(rule), {})
        if start is not None:
            (there, away), left = start
            names = variables_in(question.rules[index])
            every = found.found(left)
            for key in every:
                numbers = {**given, **every[key]}
                leaf = (MATCH, index, tuple([numbers[name] for name in names]))
                terms[(there | key[0], away | key[1])] = leaf
    return terms
