"""Counts of the futures that have an answer, and the least case trees."""

from firmrows.papers.chances import open_rows_of
from firmrows.papers.checks import check_case
from firmrows.papers.terms import terms_of
from firmrows.papers.trees import ASK

MAX_COUNTED = 12
MAX_LEAST = 8


def terms_and_rows(question, database, licence, answer, limit):
    """Return the terms and the open rows, for arguments that are yet to be checked."""
    check_case(question, database, licence, answer)
    opened = open_rows_of(question, database, licence, answer, limit)
    return (terms_of(question, database, licence, answer, opened), opened)


def columns(many):
    """Return the list of integers whose bit k tells whether the future k has the open row of a position."""
    found = []
    for place in range(many):
        width = 1 << place
        column = ((1 << width) - 1) << width
        for further in range(place + 1, many):
            column = column | (column << (1 << further))
        found.append(column)
    return found


def futures_with(terms, having, every):
    """Return the integer whose bit k tells whether the future k has the answer."""
    held = 0
    for there, away in terms:
        fitting = every
        for place, column in enumerate(having):
            if there & (1 << place) > 0:
                fitting = fitting & column
            if away & (1 << place) > 0:
                fitting = fitting & ~column
        held = held | fitting
    return held


def outcomes(question, database, licence, answer):
    """Return which futures have the answer, which have each open row, which there are, and the open rows.

    Each of the first three is told by the bits of integers. The bits of k tell which open rows the future k has.
    """
    terms, opened = terms_and_rows(question, database, licence, answer, MAX_COUNTED)
    having = columns(len(opened))
    every = (1 << (1 << len(opened))) - 1
    return (futures_with(terms, having, every), having, every, opened)


def ones(number):
    """Return how many bits of a number are set."""
    digits = f"{number:b}"
    return digits.count("1")


def share(question, database, licence, answer):
    """Return how many of the futures in the open rows have the answer, and how many there are."""
    held, _, every, _ = outcomes(question, database, licence, answer)
    return (ones(held), ones(every))


def deciders(question, database, licence, answer):
    """Return the ascending tuple of the open rows that alone decide whether the answer is there."""
    held, having, every, opened = outcomes(question, database, licence, answer)
    return tuple([row for row, column in zip(opened, having) if held == column or held == every & ~column])


def weights(question, database, licence, answer):
    """Return a dict from the open rows to how many futures lose or get the answer by this row alone."""
    held, having, every, opened = outcomes(question, database, licence, answer)
    found = {}
    for place, row in enumerate(opened):
        # Beside each future without the row stands the one that differs by the row alone.
        beside = held ^ (held >> (1 << place))
        found[row] = 2 * ones(beside & every & ~having[place])
    return found


class LeastSearch:
    """Looks for the least case trees below nodes, whose bits tell which open rows were found there or not."""

    def __init__(self, terms, opened):
        self._terms = terms
        self._opened = opened
        self._failed = {}

    def alive(self, there, away):
        """Return the list of the pairs (unknown bits, leaf) of the terms that can still hold."""
        known = ~(there | away)
        able = [term for term in self._terms if term[0] & away == 0 and term[1] & there == 0]
        return [((term[0] | term[1]) & known, self._terms[term]) for term in able]

    def tree(self, there, away, deep):
        """Return a right tree whose depth is no more than that, or None."""
        if self._failed.get((there, away), -1) >= deep:
            return None
        alive = self.alive(there, away)
        bits = 0
        # A leaf is a term of which nothing is unknown; so with more unknown than steps there is none.
        least = deep + 1
        for unknown, leaf in alive:
            if unknown == 0:
                return leaf
            least = min(least, ones(unknown))
            bits = bits | unknown
        if least <= deep:
            for place, row in enumerate(self._opened):
                bit = 1 << place
                if bits & bit > 0:
                    yes = self.tree(there | bit, away, deep - 1)
                    no = None if yes is None else self.tree(there, away | bit, deep - 1)
                    if no is not None:
                        return (ASK, row, yes, no)
        self._failed[(there, away)] = deep
        return None


def least_tree(question, database, licence, answer):
    """Return a right case tree of the least depth, or None if the answer is not firm."""
    terms, opened = terms_and_rows(question, database, licence, answer, MAX_LEAST)
    every = (1 << (1 << len(opened))) - 1
    if futures_with(terms, columns(len(opened)), every) != every:
        return None
    search = LeastSearch(terms, opened)
    for deep in range(len(opened) + 1):
        tree = search.tree(0, 0, deep)
        if tree is not None:
            return tree
    return None
