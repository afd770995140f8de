"""Frozen pairs: frozen rules, each with a row that comes or goes."""

from firmrows.ask.molds import Mold
from firmrows.ask.rules import names_among, put_in_rule, variables_in
from firmrows.base.patterns import meeting, put_in
from firmrows.compare.frozen import MAX_WAYS, Freezer
from firmrows.errors import TooMany

# Which pairs are asked for: all; those whose row is not among the rows; among them; among those that are away.
EVERY = 0
BESIDE = 1
AMONG = 2
AWAY = 3


def own_pattern(pattern):
    """Return a pattern with its blanks marked, so that they mean nothing to variables."""
    return pattern[:1] + tuple(["1 " + term if isinstance(term, str) else term for term in pattern[1:]])


def special_rules(rule, pattern, kind):
    """Return the list of triples of a rule, a pattern of it and its variables, in the order of the given rule's ones.

    In each of them a pattern of the rule is one that only rows of the given pattern fit.
    """
    found = []
    for other in rule[1] if kind == AMONG else rule[2]:
        table = meeting(other, pattern)
        if table is not None:
            terms = [table.get(name, name) for name in variables_in(rule)]
            names = tuple(list({term: True for term in terms if isinstance(term, str)}))
            found.append((put_in_rule(rule, table), put_in(other, table), names))
    return found


def pair_lines(rules, numbers, pattern, kind):
    """Yield pairs of a mold and a line, for all pairs of a kind; the row is that of the further pattern of the mold."""
    own = own_pattern(pattern)
    for rule in rules:
        # The blanks come behind the variables; equal names of both mean nothing.
        triples = [(rule, own, variables_in(rule) + names_among(own[1:]))]
        if kind in (AMONG, AWAY):
            triples = special_rules(rule, own, kind)
        for special, row, names in triples:
            mold = Mold(special, names, (row,))
            freezer = Freezer(mold, len(names), numbers, kind == BESIDE)
            for line in freezer.lines():
                yield (mold, line)


def pair_of(mold, line):
    """Return the frozen pair of a mold and a line."""
    return mold.frozen_of(line) + tuple(mold.further_of(line))


def freeze_pairs(rules, numbers, pattern, kind):
    """Return the ascending tuple of the different frozen pairs of a kind; TooMany for more than 2000 of them."""
    found = {}
    for mold, line in pair_lines(rules, numbers, pattern, kind):
        found[pair_of(mold, line)] = True
        if len(found) > MAX_WAYS:
            raise TooMany(MAX_WAYS)
    return tuple(sorted(list(found)))


def freeze_pairs_for(rules, numbers, pattern, kind, trees):
    """Return the ascending tuple of the different frozen pairs of a kind, or None if there are more than trees."""
    most = len(trees) if isinstance(trees, tuple) else -1
    found = {}
    for mold, line in pair_lines(rules, numbers, pattern, kind):
        found[pair_of(mold, line)] = True
        if len(found) > most:
            return None
    return tuple(sorted(list(found)))


def cases_of(pairs, kind):
    """Return the list of the cases for pairs whose row comes, or for such, of the kind `AMONG`, whose row goes."""
    if kind == AMONG:
        return [(head, rows_without(rows, row), rows_with(away, row)) for head, rows, away, row in pairs]
    return [(head, rows_with(rows, row), rows_without(away, row)) for head, rows, away, row in pairs]


def rows_with(rows, row):
    """Return the ascending tuple of the rows, with one row put in."""
    return tuple(sorted(set(rows + (row,))))


def rows_without(rows, row):
    """Return the tuple of the rows without one row."""
    return tuple([other for other in rows if other != row])
