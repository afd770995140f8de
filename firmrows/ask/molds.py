"""Rules made ready so that integers are quickly put in for all their variables.

A *line* is a tuple of the integers that stand in a rule, and behind them those for its variables. The places
of a pattern tell where in a line its terms stand.
"""

from firmrows.ask.rules import numbers_in


class Mold:
    """A rule, and perhaps a further pattern, made ready for integers for some names in an order."""

    def __init__(self, rule, names, further):
        head, wanted, barred, unlike = rule
        self._constants = numbers_in((rule, ((), further, (), ())))
        self._many = len(names)
        places = {term: place for place, term in enumerate(self._constants + names)}
        self._head = tuple([places[term] for term in head])
        self._wanted = [(pattern[:1], tuple([places[term] for term in pattern[1:]])) for pattern in wanted]
        self._barred = [(pattern[:1], tuple([places[term] for term in pattern[1:]])) for pattern in barred]
        self._further = [(pattern[:1], tuple([places[term] for term in pattern[1:]])) for pattern in further]
        self._unlike = [(places[one], places[other]) for one, other in unlike]

    def start(self):
        """Return the line without integers for variables."""
        return self._constants

    def line(self, integers):
        """Return the line with these integers for the variables, or None if they are not as many."""
        return self._constants + integers if len(integers) == self._many else None

    def head_of(self, line):
        """Return the head with the integers of a line."""
        return tuple([line[place] for place in self._head])

    def wanted_of(self, line):
        """Return the list of the wanted rows with the integers of a line."""
        return [table + tuple([line[place] for place in places]) for table, places in self._wanted]

    def barred_of(self, line):
        """Return the list of the barred rows with the integers of a line."""
        return [table + tuple([line[place] for place in places]) for table, places in self._barred]

    def further_of(self, line):
        """Return the list of the rows of the further patterns with the integers of a line."""
        return [table + tuple([line[place] for place in places]) for table, places in self._further]

    def is_unlike(self, line):
        """Return whether the terms of each pair are different."""
        for one, other in self._unlike:
            if line[one] == line[other]:
                return False
        return True

    def frozen_of(self, line):
        """Return the frozen rule with the integers of a line."""
        wanted, barred = tuple(self.wanted_of(line)), tuple(self.barred_of(line))
        if len(wanted) > 1:
            wanted = tuple(sorted(set(wanted)))
        if len(barred) > 1:
            barred = tuple(sorted(set(barred)))
        return (self.head_of(line), wanted, barred)

    def clauses(self, is_beside):
        """Return the list of the clauses that integers must hold to freeze the rule.

        A clause is a list of pairs of places; the integers at the places of one of them must be different.
        If it is asked for, the rows of further patterns are not among the wanted ones.
        """
        clauses = [[pair] for pair in self._unlike]
        for table, places in self._barred + (self._further if is_beside else []):
            for other, more in self._wanted:
                if other == table and len(more) == len(places):
                    clauses.append(list(zip(places, more)))
        return clauses
