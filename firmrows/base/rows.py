"""Integers, names, rows and patterns: what they are, and the errors for what is none."""

from firmrows.errors import InvalidPattern, InvalidRow

MAX_LETTERS = 8
MAX_TERMS = 3


def is_integer(value):
    """Return whether the value is an integer; True and False are none here."""
    return isinstance(value, int) and not isinstance(value, bool)


def is_integers(value):
    """Return whether the value is a tuple of integers."""
    return isinstance(value, tuple) and all([is_integer(part) for part in value])


def is_exchange(value):
    """Return whether the value is a dict from integers to integers."""
    return isinstance(value, dict) and all([is_integer(key) and is_integer(value[key]) for key in value])


def is_name(value):
    """Return whether the value is a name."""
    if not isinstance(value, str) or not 1 <= len(value) <= MAX_LETTERS:
        return False
    return value.isascii() and value.isalpha() and value.islower()


def is_term(value):
    """Return whether the value is an integer or a name."""
    return is_integer(value) or is_name(value)


def is_named_tuple(value):
    """Return whether the value is a tuple of a name and as many further values as a row can have."""
    return isinstance(value, tuple) and 1 <= len(value) <= 1 + MAX_TERMS and is_name(value[0])


def is_row(value):
    """Return whether the value is a row."""
    return is_named_tuple(value) and all([is_integer(part) for part in value[1:]])


def is_pattern(value):
    """Return whether the value is a pattern."""
    return is_named_tuple(value) and all([is_term(part) for part in value[1:]])


def check_row(row):
    """Raise InvalidRow if the value is not a row."""
    if not is_row(row):
        raise InvalidRow("not a row: a tuple of a name and zero to three integers")


def check_rows(rows):
    """Raise InvalidRow if one of the values is not a row."""
    for row in rows:
        check_row(row)


def check_pattern(pattern):
    """Raise InvalidPattern if the value is not a pattern."""
    if not is_pattern(pattern):
        raise InvalidPattern("not a pattern: a tuple of a name and zero to three integers or names")
