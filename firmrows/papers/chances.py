"""Chances of an answer, and the rows on which it can depend."""

from firmrows.ask.rules import names_among, put_in_rule
from firmrows.base.patterns import bound, bound_terms, put_in
from firmrows.errors import TooMany
from firmrows.future.futures import is_changeable
from firmrows.papers.ways import Ways, parts_of_rule


class Chances(Ways):
    """The chances over some known integers. No row has a bit, so each yield is (0, 0)."""

    def __init__(self, database, licence, numbers):
        Ways.__init__(self)
        self._database = database
        self._licence = licence
        self._numbers = {number: True for number in numbers}
        self._possible = {}
        self._chosen = {}

    def wanted_bits(self, pattern):
        """Return 0, or None if no row of a wanted pattern is there or may come."""
        if pattern not in self._possible:
            there = len([row for row in self._database.near(pattern) if bound(pattern, row) is not None]) > 0
            self._possible[pattern] = there or len(self._licence.comings(pattern)) > 0
        return 0 if self._possible[pattern] else None

    def barred_bits(self, pattern):
        """Return 0, or None if the pattern is a row that is there and may not go."""
        stuck = pattern in self._database and not self._licence.may_go(pattern)
        return None if stuck else 0

    def numbers_for(self, tables, name):
        """Return the list of the known integers that a variable is in one of some dicts."""
        if len([table for table in tables if isinstance(table[name], str)]) > 0:
            return list(self._numbers)
        found = {table[name]: True for table in tables}
        return [number for number in found if number in self._numbers]

    def choices(self, pattern, name):
        """Return the list of the integers that a variable of a wanted pattern can be."""
        if (pattern, name) not in self._chosen:
            found = [bound(pattern, row) for row in self._database.near(pattern)]
            tables = [table for table in found if table is not None] + self._licence.comings(pattern)
            self._chosen[(pattern, name)] = self.numbers_for(tables, name)
        return self._chosen[(pattern, name)]

    def changing(self, pattern, name):
        """Return the list of the integers that a variable of a row that can change can be."""
        rows = [row for row in self._database.near(pattern) if self._licence.may_go(row)]
        found = [bound(pattern, row) for row in rows]
        tables = [table for table in found if table is not None] + self._licence.comings(pattern)
        return self.numbers_for(tables, name)

    def add_open(self, pattern, parts, limit, opened):
        """Add the rows of a pattern that can change and stand in a chance to the keys of a dict.

        The parts are what is left of the rule with these integers. A row more than the limit is enough.
        """
        if pattern in opened or len(opened) > limit or len(self.found(parts)) == 0:
            return
        names = names_among(pattern[1:])
        if len(names) == 0:
            if is_changeable(self._database, self._licence, pattern):
                opened[pattern] = True
            return
        for number in self.changing(pattern, names[0]):
            table = {names[0]: number}
            step = self.rest(parts, table)
            if step is not None:
                self.add_open(put_in(pattern, table), step[1], limit, opened)


def known_numbers(question, database, answer):
    """Return the ascending tuple of the known integers."""
    return tuple(sorted(set(database.numbers + question.named + answer)))


def rules_for(question, answer):
    """Return the list of triples of an index, what the answer gives to variables, and what is left of the rule."""
    rules = []
    for index, rule in enumerate(question.rules):
        given = bound_terms(rule[0], answer)
        if given is not None:
            rules.append((index, given, put_in_rule(rule, given)))
    return rules


def open_rows_of(question, database, licence, answer, limit):
    """Return the ascending tuple of the open rows; TooMany if there are more than the limit."""
    chances = Chances(database, licence, known_numbers(question, database, answer))
    opened = {}
    for _, _, rule in rules_for(question, answer):
        start = chances.rest(parts_of_rule(rule), {})
        if start is not None:
            for pattern in rule[1] + rule[2]:
                chances.add_open(pattern, start[1], limit, opened)
    if len(opened) > limit:
        raise TooMany(limit)
    return tuple(sorted(list(opened)))
