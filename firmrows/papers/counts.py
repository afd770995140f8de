"""Counts of the futures that have an answer, and the least case trees."""

from firmrows.papers.chances import open_rows_of
from firmrows.papers.checks import check_case
from firmrows.papers.terms import terms_of
from firmrows.papers.trees import ASK

MAX_COUNTED = 12
MAX_LEAST = 8
ENDLESS = 1000


def terms_and_rows(question, database, licence, answer, limit):
    """Return the terms and the open rows, for arguments that are yet to be checked."""
    check_case(question, database, licence, answer)
    opened = open_rows_of(question, database, licence, answer, limit)
    return (terms_of(question, database, licence, answer, opened), opened)


def columns(many):
    """Return the list of integers whose bit k tells whether the future k has the open row of a position."""
    found = []
    for place in range(many):
        bit = 1 << place
        found.append(sum([1 << k for k in range(1 << many) if k & bit > 0]))
    return found


def outcomes(question, database, licence, answer):
    """Return the list of whether the futures have the answer, and the open rows.

    The bits of a position in the list tell which open rows the future has.
    """
    terms, opened = terms_and_rows(question, database, licence, answer, MAX_COUNTED)
    many = len(opened)
    every = (1 << (1 << many)) - 1
    having = columns(many)
    held = 0
    for there, away in terms:
        fitting = every
        for place in range(many):
            if there & (1 << place) > 0:
                fitting = fitting & having[place]
            if away & (1 << place) > 0:
                fitting = fitting & ~having[place]
        held = held | fitting
    return ([held & (1 << k) > 0 for k in range(1 << many)], opened)


def share(question, database, licence, answer):
    """Return how many of the futures in the open rows have the answer, and how many there are."""
    held, _ = outcomes(question, database, licence, answer)
    return (sum([1 for has in held if has]), len(held))


def deciders(question, database, licence, answer):
    """Return the ascending tuple of the open rows that alone decide whether the answer is there."""
    held, opened = outcomes(question, database, licence, answer)
    found = []
    for place, row in enumerate(opened):
        having = [k & (1 << place) > 0 for k in range(len(held))]
        if held == having or held == [not has for has in having]:
            found.append(row)
    return tuple(found)


def weights(question, database, licence, answer):
    """Return a dict from the open rows to how many futures lose or get the answer by this row alone."""
    held, opened = outcomes(question, database, licence, answer)
    found = {}
    for place, row in enumerate(opened):
        bit = 1 << place
        found[row] = sum([1 for k in range(len(held)) if held[k] != held[k ^ bit]])
    return found


class LeastSearch:
    """Looks for the least case trees below nodes, whose bits tell which open rows were found there or not."""

    def __init__(self, terms, opened):
        self._terms = terms
        self._opened = opened
        self._least = {}

    def least(self, there, away):
        """Return a pair: the depth and a right tree of this depth, or `ENDLESS` and None."""
        if (there, away) not in self._least:
            self._least[(there, away)] = self.worked_out(there, away)
        return self._least[(there, away)]

    def worked_out(self, there, away):
        """Return what `least` returns, when it is asked for the first time."""
        for term in self._terms:
            if term[0] & ~there == 0 and term[1] & ~away == 0:
                return (0, self._terms[term])
        best = (ENDLESS, None)
        for place, row in enumerate(self._opened):
            bit = 1 << place
            if bit & (there | away) == 0:
                yes = self.least(there | bit, away)
                no = self.least(there, away | bit)
                many = 1 + max(yes[0], no[0])
                if many < best[0]:
                    best = (many, (ASK, row, yes[1], no[1]))
        return best


def least_tree(question, database, licence, answer):
    """Return a right case tree of the least depth, or None if the answer is not firm."""
    terms, opened = terms_and_rows(question, database, licence, answer, MAX_LEAST)
    return LeastSearch(terms, opened).least(0, 0)[1]
