"""What is known of the variables of a rule on a way through a bar tree.

A state is a pair of a dict, which takes each variable to an integer or to a variable that is equal to it,
and a tuple of pairs of terms that are different. It is None where there are no such integers.
"""

from firmrows.ask.rules import variables_in
from firmrows.base.patterns import put_in_terms


def has_equal(pairs):
    """Return whether the two terms of one of the pairs are equal."""
    for one, other in pairs:
        if one == other:
            return True
    return False


def put_in_pairs(pairs, table):
    """Return the pairs, with those of their terms that are keys of the dict replaced."""
    return tuple([put_in_terms(pair, table) for pair in pairs])


def equated(state, one, other):
    """Return the state with two terms equal."""
    if state is None:
        return None
    table, unlike = state
    one, other = put_in_terms((one, other), table)
    if one == other:
        return state
    if isinstance(one, int) and isinstance(other, int):
        return None
    change = {other: one} if isinstance(one, int) else {one: other}
    unlike = put_in_pairs(unlike, change)
    if has_equal(unlike):
        return None
    return ({name: change.get(table[name], table[name]) for name in table}, unlike)


def parted(state, one, other):
    """Return the state with two terms different."""
    if state is None:
        return None
    table, unlike = state
    pair = put_in_terms((one, other), table)
    return None if has_equal((pair,)) else (table, unlike + (pair,))


def start_of(rule, answer):
    """Return the state in which the head of the rule is the answer."""
    state = ({name: name for name in variables_in(rule)}, ())
    for term, number in zip(rule[0], answer):
        state = equated(state, term, number)
    return state
