"""Moves: a row that comes or goes by a licence, and what cannot change any more."""

from firmrows.base.rows import check_row, is_integer
from firmrows.errors import InvalidDatabase, InvalidNumber, NothingToUndo, NotLet

PUT = "put"
TAKE = "take"
SEAL = "seal"
MAX_ROWS = 60


def check_many_rows(database):
    """Raise InvalidDatabase if a database has more than 60 rows."""
    if len(database) > MAX_ROWS:
        raise InvalidDatabase("a database of more than 60 rows")


def put_row(database, licence, row):
    """Return the database with a row put in; NotLet if it is not there and may not come."""
    check_row(row)
    if row in database:
        return database
    if not licence.may_come(row):
        raise NotLet(row)
    later = database.with_rows(row)
    check_many_rows(later)
    return later


def take_row(database, licence, row):
    """Return the database with a row taken out; NotLet if it is there and may not go."""
    check_row(row)
    if row in database and not licence.may_go(row):
        raise NotLet(row)
    return database.without_rows(row)


def is_headed(value, lengths):
    """Return whether the value is a tuple of a word, and of the length that a dict tells for this word."""
    if not isinstance(value, tuple) or len(value) == 0 or not isinstance(value[0], str):
        return False
    return value[0] in lengths and len(value) == lengths[value[0]]


def check_back(many, most):
    """Raise the error if so many cannot be taken back, because there are not so many."""
    if not is_integer(many) or many < 0:
        raise InvalidNumber(many)
    if many > most:
        raise NothingToUndo(many)
