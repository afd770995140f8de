"""Looks for right case trees."""

from firmrows.ask.matches import first_match
from firmrows.ask.rules import put_in_rule, variables_in
from firmrows.base.databases import Database
from firmrows.errors import TooMany
from firmrows.future.futures import is_changeable
from firmrows.papers.trees import ASK, MATCH

MAX_OPEN = 16


class CaseSearch:
    """Looks for a right case tree, or for a spoiler.

    It knows the matches that it has found so far, and looks for another one only in a future in which none
    of them is left. Each row of a match that can change gets a bit. All these rows are open rows [7.1], since
    each future that is looked at differs from the database only in rows that have a bit. At a node the bits
    tell which rows were found there, and which ones not, on the way to it.
    """

    def __init__(self, question, database, licence, answer):
        self._question = question
        self._database = database
        self._licence = licence
        self._answer = answer
        self._asked = []
        self._bits = {}
        self._at_first = 0
        self._matches = []
        self.spoiler = None

    def bit_of(self, row):
        """Return the bit of a row, or 0 if it cannot change."""
        if row not in self._bits:
            if not is_changeable(self._database, self._licence, row):
                self._bits[row] = 0
                return 0
            if len(self._asked) == MAX_OPEN:
                raise TooMany(MAX_OPEN)
            self._bits[row] = 1 << len(self._asked)
            self._asked.append(row)
            if row in self._database:
                self._at_first = self._at_first | self._bits[row]
        return self._bits[row]

    def found_match(self, index, numbers):
        """Return a match as a tuple: its wanted bits, its barred bits, the list of both, and its leaf."""
        rule = self._question.rules[index]
        made = put_in_rule(rule, numbers)
        wanted = sorted(set([self.bit_of(row) for row in made[1]]))
        barred = sorted(set([self.bit_of(row) for row in made[2]]))
        leaf = (MATCH, index, tuple([numbers[name] for name in variables_in(rule)]))
        bits = [bit for bit in wanted + barred if bit > 0]
        return (sum(wanted), sum(barred), bits, leaf)

    def future_at(self, there):
        """Return the future that has exactly those of the rows with bits that are told."""
        rows = [row for row in self._asked if (self._bits[row] & there == 0) == (row in self._database)]
        return self._database ^ Database(*rows)

    def add_match(self, there):
        """Look for a match in the future with the rows told, and return it, or None if that is a spoiler."""
        future = self.future_at(there)
        pair = first_match(self._question, future, self._answer)
        if pair is None:
            self.spoiler = future
            return None
        match = self.found_match(pair[0], pair[1])
        self._matches.append(match)
        return match

    def tree(self, there, away):
        """Return a right tree below a node, or None if there is a spoiler, which is kept."""
        able = [match for match in self._matches if match[0] & away == 0 and match[1] & there == 0]
        future = (self._at_first | there) & ~away
        if not all([match[0] & ~future > 0 or match[1] & future > 0 for match in able]):
            return self.grown(there, away, able)
        match = self.add_match(future)
        return None if match is None else self.grown(there, away, able + [match])

    def grown(self, there, away, able):
        """Return a right tree below a node at which these matches are still possible, or None."""
        known = there | away
        # The match of which least is unknown: one branch may end at once.
        many = [len([bit for bit in match[2] if bit & known == 0]) for match in able]
        wanted, _, bits, leaf = able[many.index(min(many))]
        if min(many) == 0:
            return leaf
        bit = [bit for bit in bits if bit & known == 0][0]
        if bit & wanted > 0:
            no = self.tree(there, away | bit)
            yes = None if no is None else self.tree(there | bit, away)
        else:
            yes = self.tree(there | bit, away)
            no = None if yes is None else self.tree(there, away | bit)
        if yes is None or no is None:
            return None
        row = [row for row in self._asked if self._bits[row] == bit][0]
        return (ASK, row, yes, no)


def case_search(question, database, licence, answer):
    """Return a pair: a right case tree and None, or None and a spoiler."""
    search = CaseSearch(question, database, licence, answer)
    tree = search.tree(0, 0)
    return (tree, search.spoiler)
