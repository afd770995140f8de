"""What is known of the variables of a rule on a way through a bar tree.

A state is a pair of dicts. The first one takes each variable to an integer or to a variable that is equal
to it. The keys of the second one are pairs of different terms: a variable and an integer, or two variables in
ascending order. The state is None where there are no such integers.
"""

from firmrows.ask.rules import variables_in
from firmrows.base.patterns import put_in_terms


def has_equal(pairs):
    """Return whether the two terms of one of the pairs are equal."""
    for one, other in pairs:
        if one == other:
            return True
    return False


def in_order(one, other):
    """Return the pair of two terms, of which at least one is a variable, as a state has it."""
    if isinstance(one, int) or isinstance(other, str) and other < one:
        return (other, one)
    return (one, other)


def all_in_order(pairs):
    """Return a dict whose keys are pairs of terms as a state has them; pairs of two integers are left out."""
    return {in_order(one, other): True for one, other in pairs if isinstance(one, str) or isinstance(other, str)}


def equated(state, one, other):
    """Return the state with two terms equal."""
    if state is None:
        return None
    table, unlike = state
    one, other = put_in_terms((one, other), table)
    if one == other:
        return state
    if isinstance(one, int) and isinstance(other, int):
        return None
    change = {other: one} if isinstance(one, int) else {one: other}
    pairs = [put_in_terms(pair, change) for pair in unlike]
    if has_equal(pairs):
        return None
    return ({name: change.get(table[name], table[name]) for name in table}, all_in_order(pairs))


def parted(state, one, others):
    """Return the state with a term different from each of some others."""
    if state is None:
        return None
    table, unlike = state
    pairs = [put_in_terms((one, other), table) for other in others]
    if has_equal(pairs):
        return None
    return (table, all_in_order(list(unlike) + pairs))


def states_below(state, variable, terms):
    """Return the list of the states below a node that asks what a variable is equal to, the last one for `other`."""
    states = []
    names = []
    for k in range(len(terms)):
        term = terms[k]
        # What is equal to an integer differs from the other ones by itself.
        before = terms[:k] if isinstance(term, str) else names
        states.append(parted(equated(state, variable, term), variable, before))
        if isinstance(term, str):
            names.append(term)
    states.append(parted(state, variable, terms))
    return states


def start_of(rule, answer):
    """Return the state in which the head of the rule is the answer."""
    state = ({name: name for name in variables_in(rule)}, {})
    for term, number in zip(rule[0], answer):
        state = equated(state, term, number)
    return state


def makes_equal(table, unlike):
    """Return whether terms that a state says to be different become equal, if a dict tells what variables become.

    They become integers, or strings that are equal for equal variables.
    """
    for name in table:
        term = table[name]
        if isinstance(term, int) and (name, term) in unlike:
            return True
        for other in table:
            if name < other and table[other] == term and (name, other) in unlike:
                return True
    return False
