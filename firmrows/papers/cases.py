"""Looks for right case trees."""

from firmrows.ask.matches import first_match
from firmrows.base.databases import made
from firmrows.errors import TooMany
from firmrows.papers.grounds import Ground
from firmrows.papers.seekers import seekers_for, tables_of
from firmrows.papers.trees import ASK

MAX_OPEN = 16


class CaseSearch:
    """Looks for a right case tree, or for a spoiler.

    It knows the matches that it has found so far, and looks for another one only in a future in which none
    of them is left; among more rows than `most` with a plan. Each row of a match that can change gets a bit. All
    these rows are open rows [7.1], since each future that is looked at differs from the first rows only in rows
    that have a bit. At a node the bits tell which rows were found there, and which ones not, on the way to it.
    """

    def __init__(self, question, answer, ground, seekers, most):
        self._question = question
        self._answer = answer
        self._ground = ground
        self._seekers = seekers
        self._most = most
        self._asked = []
        self._bits = {}
        self._at_first = 0
        self._matches = []
        self._spoiler = None

    def spoiler(self):
        """Return the spoiler that was found."""
        return self._spoiler

    def bit_of(self, row):
        """Return the bit of a row, or 0 if it cannot change."""
        if row not in self._bits:
            if self._ground.settled(row) is not None:
                self._bits[row] = 0
                return 0
            if len(self._asked) == MAX_OPEN:
                raise TooMany(MAX_OPEN)
            self._bits[row] = 1 << len(self._asked)
            self._asked.append(row)
            if row in self._ground.first_rows():
                self._at_first = self._at_first | self._bits[row]
        return self._bits[row]

    def know(self, index, numbers):
        """Keep a match, with the integers for the variables that are not in the head, and return it.

        It is kept as a tuple: its wanted bits, its barred bits, the list of both, and its leaf.
        """
        seeker = self._seekers[index]
        wanted = sorted(set([self.bit_of(row) for row in seeker.wanted_rows(numbers)]))
        barred = sorted(set([self.bit_of(row) for row in seeker.barred_rows(numbers)]))
        bits = [bit for bit in wanted + barred if bit > 0]
        match = (sum(wanted), sum(barred), bits, seeker.leaf(numbers))
        self._matches.append(match)
        return match

    def rows_at(self, there):
        """Return the list of the rows of the future that has exactly those of the rows with bits that are told."""
        bits = self._bits
        stays = [row for row in self._ground.first_rows() if bits.get(row, 0) == 0]
        return stays + [row for row in self._asked if bits[row] & there > 0]

    def found_in(self, rows):
        """Return the index of a rule and the integers of a match among some rows, or None."""
        if len(rows) > self._most:
            return first_match(self._question, made(tuple(sorted(rows))), self._answer)
        have = {row: True for row in rows}
        tables = tables_of(rows)
        for index in self._seekers:
            numbers = self._seekers[index].found(have, tables)
            if numbers is not None:
                return (index, numbers)
        return None

    def add_match(self, there):
        """Look for a match in the future with the rows told, and return it, or None if that is a spoiler."""
        rows = self.rows_at(there)
        pair = self.found_in(rows)
        if pair is None:
            self._spoiler = made(tuple(sorted(rows)))
            return None
        return self.know(pair[0], pair[1])

    def tree(self, there, away):
        """Return a right tree below a node, or None if there is a spoiler, which is kept."""
        able = [match for match in self._matches if match[0] & away == 0 and match[1] & there == 0]
        future = (self._at_first | there) & ~away
        for match in able:
            if match[0] & ~future == 0 and match[1] & future == 0:
                return self.grown(there, away, able)
        match = self.add_match(future)
        return None if match is None else self.grown(there, away, able + [match])

    def grown(self, there, away, able):
        """Return a right tree below a node at which these matches are still possible, or None."""
        known = there | away
        # The match of which least is unknown: one branch may end at once.
        many = [len([bit for bit in match[2] if bit & known == 0]) for match in able]
        wanted, _, bits, leaf = able[many.index(min(many))]
        if min(many) == 0:
            return leaf
        bit = [bit for bit in bits if bit & known == 0][0]
        if bit & wanted > 0:
            no = self.tree(there, away | bit)
            yes = None if no is None else self.tree(there | bit, away)
        else:
            yes = self.tree(there | bit, away)
            no = None if yes is None else self.tree(there, away | bit)
        if yes is None or no is None:
            return None
        row = [row for row in self._asked if self._bits[row] == bit][0]
        return (ASK, row, yes, no)


def case_search(question, database, licence, answer):
    """Return a pair: a right case tree and None, or None and a spoiler."""
    search = CaseSearch(question, answer, Ground(database, licence), seekers_for(question, answer), 0)
    tree = search.tree(0, 0)
    return (tree, search.spoiler())
