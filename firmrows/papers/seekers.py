"""Looks for matches with an answer among few rows, where no plan is worth its while."""

from firmrows.ask.rules import variables_in
from firmrows.base.patterns import put_in
from firmrows.papers.chances import rules_for
from firmrows.papers.equal import has_equal
from firmrows.papers.trees import MATCH


def table_of(pattern):
    """Return the key of the table of a pattern."""
    return (pattern[0], len(pattern))


def tables_of(rows):
    """Return a dict from tables to the lists of their rows."""
    tables = {}
    for row in rows:
        tables.setdefault(table_of(row), []).append(row)
    return tables


def extended(pattern, row, numbers):
    """Return the dict with the integers that take a pattern to a row of its table, too, or None."""
    more = {**numbers}
    for term, number in zip(pattern[1:], row[1:]):
        if isinstance(term, int):
            if term != number:
                return None
        elif more.setdefault(term, number) != number:
            return None
    return more


def variables_among(terms):
    """Return the list of the variables among some terms, perhaps repeated."""
    return [term for term in terms if isinstance(term, str)]


def in_good_order(patterns):
    """Return the list of the patterns, in an order in which many terms are known when a pattern is looked at."""
    left, order, known = list(patterns), [], {}
    while len(left) > 1:
        ranks = [len([name for name in variables_among(pattern[1:]) if name not in known]) for pattern in left]
        pattern = left.pop(ranks.index(min(ranks)))
        known.update({name: True for name in variables_among(pattern[1:])})
        order.append(pattern)
    return order + left


def steps_of(rule):
    """Return the list of the steps of a rule.

    Each has a wanted pattern, and the barred patterns and pairs whose variables are known behind it, but not before.
    """
    _, wanted, barred, unlike = rule
    bars = [pattern for pattern in barred if len(variables_among(pattern[1:])) > 0]
    pairs = list(unlike)
    known = {}
    steps = []
    for pattern in in_good_order(wanted):
        known.update({name: True for name in variables_among(pattern[1:])})
        late_bars = [other for other in bars if not all([name in known for name in variables_among(other[1:])])]
        late_pairs = [pair for pair in pairs if not all([name in known for name in variables_among(pair)])]
        steps.append((pattern, [other for other in bars if other not in late_bars],
                      [pair for pair in pairs if pair not in late_pairs]))
        bars, pairs = late_bars, late_pairs
    return steps


class Seeker:
    """A rule whose head is an answer, made ready for the search."""

    def __init__(self, index, given, names, rule):
        self._index = index
        self._given = given
        self._names = names
        self._rule = rule
        self._wanted = rule[1]
        self._barred = rule[2]
        self._first = [pattern for pattern in rule[2] if len(variables_among(pattern[1:])) == 0]
        # Many rules are never looked at, as one ahead of them has a match.
        self._steps = None

    def found(self, have, tables):
        """Return a dict with the integers of a match among rows, or None."""
        for row in self._first:
            if row in have:
                return None
        if self._steps is None:
            self._steps = steps_of(self._rule)
        return self.found_from(0, {}, have, tables)

    def found_from(self, level, numbers, have, tables):
        """Return the dict with the integers of a match, if those of the first steps are known, or None."""
        if level == len(self._steps):
            return numbers
        pattern, bars, pairs = self._steps[level]
        for row in tables.get(table_of(pattern), ()):
            more = extended(pattern, row, numbers)
            if more is not None and not self.is_out(bars, pairs, more, have):
                found = self.found_from(level + 1, more, have, tables)
                if found is not None:
                    return found
        return None

    def is_out(self, bars, pairs, numbers, have):
        """Return whether the row of a barred pattern is there, or the terms of a pair are equal."""
        for pattern in bars:
            if put_in(pattern, numbers) in have:
                return True
        for one, other in pairs:
            if numbers.get(one, one) == numbers.get(other, other):
                return True
        return False

    def wanted_rows(self, numbers):
        """Return the list of the wanted rows of a match."""
        return [put_in(pattern, numbers) for pattern in self._wanted]

    def barred_rows(self, numbers):
        """Return the list of the barred rows of a match."""
        return [put_in(pattern, numbers) for pattern in self._barred]

    def leaf(self, numbers):
        """Return the leaf of a case tree that tells of a match."""
        given = self._given
        return (MATCH, self._index, tuple([given[name] if name in given else numbers[name] for name in self._names]))


def seekers_for(question, answer):
    """Return a dict from indices to seekers, for the rules that can have the answer."""
    seekers = {}
    for index, given, rule in rules_for(question, answer):
        if not has_equal(rule[3]):
            seekers[index] = Seeker(index, given, variables_in(question.rules[index]), rule)
    return seekers
