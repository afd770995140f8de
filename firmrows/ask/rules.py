"""What stands in a rule, and how integers are put into it."""

from firmrows.base.patterns import put_in, put_in_terms


def terms_in(rule):
    """Return the list of all terms that stand anywhere in a rule."""
    head, wanted, barred, unlike = rule
    patterns = [term for pattern in wanted + barred for term in pattern[1:]]
    pairs = [side for pair in unlike for side in pair]
    return list(head) + patterns + pairs


def names_among(terms):
    """Return the ascending tuple of the names among some terms."""
    return tuple(sorted(set([term for term in terms if isinstance(term, str)])))


def variables_in(rule):
    """Return the ascending tuple of the variables of a rule."""
    return names_among(terms_in(rule))


def numbers_in(rules):
    """Return the ascending tuple of the integers that stand in some rules."""
    numbers = [term for rule in rules for term in terms_in(rule) if isinstance(term, int)]
    return tuple(sorted(set(numbers)))


def put_in_rule(rule, table):
    """Return the rule, with those of its terms that are keys of the dict replaced."""
    head, wanted, barred, unlike = rule
    return (
        put_in_terms(head, table),
        tuple([put_in(pattern, table) for pattern in wanted]),
        tuple([put_in(pattern, table) for pattern in barred]),
        tuple([put_in_terms(pair, table) for pair in unlike]),
    )
