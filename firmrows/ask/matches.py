"""Matches of questions in databases, and what they make of rules."""

from firmrows.ask.joins import bindings, is_barred
from firmrows.ask.questions import check_answer, check_index, check_question
from firmrows.ask.rules import put_in_rule, variables_in
from firmrows.base.databases import check_database
from firmrows.base.patterns import bound_terms
from firmrows.base.rows import is_integer
from firmrows.errors import InvalidOperation


def matches(question, database):
    """Yield the pairs (index of the rule, match) of all matches, in ascending order."""
    check_question(question)
    check_database(database)
    for index, rule in enumerate(question.rules):
        for numbers in bindings(rule, database):
            yield (index, numbers)


def matches_of(question, database, answer):
    """Yield those pairs (index of the rule, match) that have the answer, in the same order."""
    check_question(question)
    check_database(database)
    check_answer(question, answer)
    for index, rule in enumerate(question.rules):
        given = bound_terms(rule[0], answer)
        if given is not None:
            variables = variables_in(rule)
            rest = put_in_rule(rule, given)
            for found in bindings(rest, database):
                yield (index, {name: given[name] if name in given else found[name] for name in variables})


def first_match(question, database, answer):
    """Return the first pair that `matches_of` yields, or None."""
    for pair in matches_of(question, database, answer):
        return pair
    return None


def is_numbers(value, rule):
    """Return whether the value is a dict from exactly the variables of a rule to integers."""
    variables = variables_in(rule)
    if not isinstance(value, dict) or len(value) != len(variables):
        return False
    return all([name in value and is_integer(value[name]) for name in variables])


def is_match(question, database, index, value):
    """Return whether the value is a match of the rule with this index."""
    check_question(question)
    check_database(database)
    check_index(question, index)
    rule = question.rules[index]
    if not is_numbers(value, rule):
        return False
    _, wanted, barred, unlike = put_in_rule(rule, value)
    have = {row: True for row in database.rows}
    return all([row in have for row in wanted]) and not is_barred(barred, unlike, {}, have)


def made_of(question, index, numbers):
    """Return the rule with this index, with integers put in for its variables."""
    check_question(question)
    check_index(question, index)
    rule = question.rules[index]
    if not is_numbers(numbers, rule):
        raise InvalidOperation("not a dict from exactly the variables of the rule to integers")
    return put_in_rule(rule, numbers)


def answer_of(question, index, numbers):
    """Return the answer of a rule with these integers."""
    return made_of(question, index, numbers)[0]


def rows_of(question, index, numbers):
    """Return the ascending tuples of the wanted and of the barred rows with these integers."""
    _, wanted, barred, _ = made_of(question, index, numbers)
    return (tuple(sorted(set(wanted))), tuple(sorted(set(barred))))
