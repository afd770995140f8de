"""Frozen pairs: frozen rules, each with a row that comes or goes."""

from firmrows.ask.rules import put_in_rule, variables_in
from firmrows.base.patterns import meeting, put_in
from firmrows.compare.frozen import MAX_WAYS, choices_after, frozen_of, is_clear
from firmrows.errors import TooMany

# Which pairs are asked for: all; those whose row is not among the rows; among them; among those that are away.
EVERY = 0
BESIDE = 1
AMONG = 2
AWAY = 3


def own_pattern(pattern):
    """Return a pattern with its blanks marked, so that they mean nothing to variables."""
    return pattern[:1] + tuple(["1 " + term if isinstance(term, str) else term for term in pattern[1:]])


def can_meet(rule, pattern, others):
    """Return whether a row of a pattern can be one of some others, which are patterns of the rule."""
    for other in others:
        table = meeting(other, pattern)
        if table is not None and is_clear(put_in_rule(rule, table)):
            return True
    return False


def can_serve(rule, pattern, kind):
    """Return whether a rule and a pattern, in which integers may be missing, can become a pair of a kind."""
    if kind == AMONG:
        return can_meet(rule, pattern, rule[1])
    if kind == AWAY:
        return can_meet(rule, pattern, rule[2])
    return is_clear(rule) and (kind == EVERY or pattern not in rule[1])


def pair_givings(rule, pattern, numbers, kind, names, table):
    """Yield the dicts that give integers to all names and make a pair of a kind, beginning with this dict."""
    if not can_serve(put_in_rule(rule, table), put_in(pattern, table), kind):
        return
    if len(table) == len(names):
        yield table
        return
    name = names[len(table)]
    for number in choices_after(numbers, table):
        more = {**table, name: number}
        yield from pair_givings(rule, pattern, numbers, kind, names, more)


def names_for(rule, pattern):
    """Return the tuple of the variables of a rule and of the marked blanks of a pattern."""
    blanks = [term for term in pattern[1:] if isinstance(term, str)]
    return variables_in(rule) + tuple(sorted(set(blanks)))


def freeze_pairs(rules, numbers, pattern, kind):
    """Return the ascending tuple of the different frozen pairs of a kind; TooMany for more than 2000 ways."""
    own = own_pattern(pattern)
    found = {}
    many = 0
    for rule in rules:
        names = names_for(rule, own)
        for table in pair_givings(rule, own, numbers, kind, names, {}):
            many = many + 1
            if many > MAX_WAYS:
                raise TooMany(MAX_WAYS)
            found[frozen_of(rule, table) + (put_in(own, table),)] = True
    return tuple(sorted(list(found)))


def freeze_pairs_for(rules, numbers, pattern, kind, trees):
    """Return the ascending tuple of the different frozen pairs of a kind, or None if there are more than trees."""
    most = len(trees) if isinstance(trees, tuple) else -1
    own = own_pattern(pattern)
    found = {}
    for rule in rules:
        names = names_for(rule, own)
        for table in pair_givings(rule, own, numbers, kind, names, {}):
            found[frozen_of(rule, table) + (put_in(own, table),)] = True
            if len(found) > most:
                return None
    return tuple(sorted(list(found)))


def cases_of(pairs, kind):
    """Return the list of the cases for pairs whose row comes, or for such, of the kind `AMONG`, whose row goes."""
    if kind == AMONG:
        return [(head, rows_without(rows, row), rows_with(away, row)) for head, rows, away, row in pairs]
    return [(head, rows_with(rows, row), rows_without(away, row)) for head, rows, away, row in pairs]


def rows_with(rows, row):
    """Return the ascending tuple of the rows, with one row put in."""
    return tuple(sorted(set(rows + (row,))))


def rows_without(rows, row):
    """Return the tuple of the rows without one row."""
    return tuple([other for other in rows if other != row])
