"""Patterns: which rows fit them, and how two of them compare."""

from firmrows.base.rows import check_pattern, check_row, is_integer, is_name
from firmrows.errors import InvalidOperation

PLAIN_BLANKS = "abc"


def bound_terms(terms, others):
    """Return a dict that tells what each name among the terms stands for in the others.

    It is None if nothing that is put in for the names makes the terms equal to the others.
    """
    if len(terms) != len(others):
        return None
    found = {}
    for term, other in zip(terms, others):
        wanted = found.setdefault(term, other) if isinstance(term, str) else term
        if wanted != other:
            return None
    return found


def bound(pattern, other):
    """Return what each blank of the first pattern stands for in the second one, or None."""
    if pattern[0] != other[0]:
        return None
    return bound_terms(pattern[1:], other[1:])


def put_in_terms(terms, table):
    """Return the terms, with those that are keys of the dict replaced."""
    return tuple([table.get(term, term) for term in terms])


def put_in(pattern, table):
    """Return the pattern, with those of its terms that are keys of the dict replaced."""
    return pattern[:1] + put_in_terms(pattern[1:], table)


def plain_form(pattern):
    """Return the plain pattern that the same rows fit."""
    table = {}
    for term in pattern[1:]:
        if isinstance(term, str) and term not in table:
            table[term] = PLAIN_BLANKS[len(table)]
    return put_in(pattern, table)


def blanks_of(pattern):
    """Return the ascending tuple of the blanks of a pattern."""
    check_pattern(pattern)
    return tuple(sorted(set([term for term in pattern[1:] if isinstance(term, str)])))


def plain(pattern):
    """Return the plain pattern that the same rows fit."""
    check_pattern(pattern)
    return plain_form(pattern)


def fits(pattern, row):
    """Return whether the row fits the pattern."""
    check_pattern(pattern)
    check_row(row)
    return bound(pattern, row) is not None


def is_filling(value, blanks):
    """Return whether the value is a dict from names to integers that has all these blanks."""
    if not isinstance(value, dict):
        return False
    right = [is_name(name) and is_integer(value[name]) for name in value]
    return all(right) and all([blank in value for blank in blanks])


def filled(pattern, numbers):
    """Return the row in which the integers of a dict stand for the blanks."""
    if not is_filling(numbers, blanks_of(pattern)):
        raise InvalidOperation("not a dict from names to integers that has all blanks")
    return put_in(pattern, numbers)


def covers(pattern, other):
    """Return whether all rows that fit the second pattern fit the first one."""
    check_pattern(pattern)
    check_pattern(other)
    return bound(pattern, other) is not None


def marked(pattern):
    """Return the terms of a pattern, each blank with a mark that no name has."""
    return tuple(["2 " + term if isinstance(term, str) else term for term in pattern[1:]])


def meeting(pattern, other):
    """Return what the blanks of the first pattern become in the rows that fit both, or None.

    The blanks of the second pattern are marked, so equal blanks of the two mean nothing to one another.
    Blanks that must become equal get the same term.
    """
    if pattern[0] != other[0] or len(pattern) != len(other):
        return None
    names = [term for term in pattern[1:] if isinstance(term, str)]
    images = tuple(names)
    ones, twos = pattern[1:], marked(other)
    for k in range(len(ones)):
        one, two = ones[k], twos[k]
        if is_integer(one) and is_integer(two) and one != two:
            return None
        table = {two: one} if is_integer(one) else {one: two}
        ones, twos, images = put_in_terms(ones, table), put_in_terms(twos, table), put_in_terms(images, table)
    return dict(zip(names, images))


def common(pattern, other):
    """Return the plain pattern that exactly the rows which fit both patterns fit, or None."""
    check_pattern(pattern)
    check_pattern(other)
    table = meeting(pattern, other)
    return None if table is None else plain_form(put_in(pattern, table))
