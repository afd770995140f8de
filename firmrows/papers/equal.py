"""What is known of the variables of a rule on a way through a bar tree.

A state is a pair of dicts. The first one takes each variable to an integer or to a variable that is equal
to it. The second one takes such variables to dicts, whose keys are the terms from which they differ; two variables
differ from one another. The state is None where there are no such integers.
"""

from firmrows.ask.rules import variables_in


def has_equal(pairs):
    """Return whether the two terms of one of the pairs are equal."""
    for one, other in pairs:
        if one == other:
            return True
    return False


def equated(state, one, other):
    """Return the state with two terms equal."""
    if state is None:
        return None
    table, apart = state
    one, other = table.get(one, one), table.get(other, other)
    if one == other:
        return state
    if isinstance(one, int) and isinstance(other, int):
        return None
    old, new = (other, one) if isinstance(one, int) else (one, other)
    differing = apart.get(old, {})
    if new in differing:
        return None
    more = {name: apart[name] for name in apart if name != old}
    if isinstance(new, str):
        more[new] = {**more.get(new, {}), **differing}
    for term in differing:
        if isinstance(term, str):
            more[term] = {**{name: True for name in more[term] if name != old}, new: True}
    return ({name: new if table[name] == old else table[name] for name in table}, more)


def parted(state, one, others):
    """Return the state with a term different from each of some others."""
    if state is None or len(others) == 0:
        return state
    table, apart = state
    one = table.get(one, one)
    terms = {table.get(other, other): True for other in others}
    if one in terms:
        return None
    more = {name: apart[name] for name in apart}
    if isinstance(one, str):
        more[one] = {**more.get(one, {}), **terms}
    for term in terms:
        if isinstance(term, str):
            more[term] = {**more.get(term, {}), one: True}
    return (table, more)


def case_state(state, variable, term, terms, names):
    """Return the state in which a variable is equal to a term, but to none of some terms, among which are the names."""
    # What is equal to an integer differs from the other ones by itself.
    return parted(equated(state, variable, term), variable, terms if isinstance(term, str) else names)


def states_below(state, variable, terms):
    """Return the list of the states below a node that asks what a variable is equal to, the last one for `other`."""
    states = []
    for k in range(len(terms)):
        names = [term for term in terms[:k] if isinstance(term, str)]
        states.append(case_state(state, variable, terms[k], terms[:k], names))
    states.append(parted(state, variable, terms))
    return states


def start_of(rule, answer):
    """Return the state in which the head of the rule is the answer."""
    state = ({name: name for name in variables_in(rule)}, {})
    for term, number in zip(rule[0], answer):
        state = equated(state, term, number)
    return state


def makes_equal(table, apart):
    """Return whether terms that a state says to be different become equal, if a dict tells what variables become.

    They become integers, or strings that are equal for equal variables.
    """
    for name in table:
        if name in apart:
            term, differing = table[name], apart[name]
            if isinstance(term, int) and term in differing:
                return True
            for other in table:
                if other != name and table[other] == term and other in differing:
                    return True
    return False
