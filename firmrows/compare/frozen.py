"""Frozen rules: what a rule asks for, with integers for its variables."""

from firmrows.ask.questions import check_question
from firmrows.ask.rules import put_in_rule, variables_in
from firmrows.base.rows import is_integers
from firmrows.errors import InvalidOperation, TooMany
from firmrows.papers.equal import has_equal

MAX_WAYS = 2000


def new_numbers(numbers, many):
    """Return the tuple of so many smallest integers from 0 on that are not among the numbers."""
    taken = {number: True for number in numbers}
    found = []
    for number in range(len(taken) + many):
        if number not in taken and len(found) < many:
            found.append(number)
    return tuple(found)


def is_clear(rule):
    """Return whether no pair of a rule is equal, and no barred pattern is a wanted one."""
    _, wanted, barred, unlike = rule
    return not has_equal(unlike) and len([pattern for pattern in barred if pattern in wanted]) == 0


def choices_after(numbers, table):
    """Return the tuple of what the next variable can be given, if a dict tells what was given before."""
    known = {number: True for number in numbers}
    given = {table[name]: True for name in table if table[name] not in known}
    return numbers + new_numbers(numbers, len(given) + 1)


def givings(rule, names, numbers, table):
    """Yield the dicts that give integers to all of the names and freeze the rule, beginning with this dict.

    Each of the dicts that are tried on the way can be completed: the variables that are left can be new
    integers, all different. So a rule without any way is found at once.
    """
    if not is_clear(put_in_rule(rule, table)):
        return
    if len(table) == len(names):
        yield table
        return
    name = names[len(table)]
    for number in choices_after(numbers, table):
        more = {**table, name: number}
        yield from givings(rule, names, numbers, more)


def frozen_of(rule, table):
    """Return the frozen rule with the integers of a dict."""
    head, wanted, barred, _ = put_in_rule(rule, table)
    return (head, tuple(sorted(set(wanted))), tuple(sorted(set(barred))))


def freeze(rules, numbers):
    """Return the ascending tuple of the different frozen rules; TooMany for more than 2000 ways."""
    found = {}
    many = 0
    for rule in rules:
        names = variables_in(rule)
        for table in givings(rule, names, numbers, {}):
            many = many + 1
            if many > MAX_WAYS:
                raise TooMany(MAX_WAYS)
            found[frozen_of(rule, table)] = True
    return tuple(sorted(list(found)))


def freeze_for(rules, numbers, trees):
    """Return the ascending tuple of the different frozen rules, or None if there are more than trees.

    So papers that are too short are refused soon. What is not a tuple of trees is shorter than all.
    """
    most = len(trees) if isinstance(trees, tuple) else -1
    found = {}
    for rule in rules:
        names = variables_in(rule)
        for table in givings(rule, names, numbers, {}):
            found[frozen_of(rule, table)] = True
            if len(found) > most:
                return None
    return tuple(sorted(list(found)))


def joint(one, other):
    """Return the ascending tuple of the different ones of two tuples of integers."""
    return tuple(sorted(set(one + other)))


def frozen_rules(question, *, named=()):
    """Return the ascending tuple of the different frozen rules of a question."""
    check_question(question)
    if not is_integers(named):
        raise InvalidOperation("not a tuple of integers")
    return freeze(question.rules, joint(question.named, named))
