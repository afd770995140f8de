"""Futures: the databases that a licence still lets come from a database."""

from itertools import combinations

from firmrows.base.databases import Database, check_database, made
from firmrows.base.rows import check_row, check_rows
from firmrows.errors import InvalidOperation, NotLet, TooMany
from firmrows.future.licences import check_licence

MAX_CHANGES = 12


def is_changeable(database, licence, row):
    """Return whether the row can change, for arguments that are checked."""
    return licence.may_go(row) if row in database else licence.may_come(row)


def can_change(database, licence, row):
    """Return whether the row can change in the database under the licence."""
    check_database(database)
    check_licence(licence)
    check_row(row)
    return is_changeable(database, licence, row)


def changed(database, licence, *rows):
    """Return the future in which exactly these rows are changed."""
    check_database(database)
    check_licence(licence)
    check_rows(rows)
    for row in rows:
        if not is_changeable(database, licence, row):
            raise NotLet(row)
    return database ^ Database(*rows)


def first_barrier(database, licence, other):
    """Return what `barrier` returns, for arguments that are checked."""
    difference = database ^ other
    for row in difference.rows:
        if not is_changeable(database, licence, row):
            return row
    return None


def is_future(database, licence, value):
    """Return whether the value is a future of the database."""
    check_database(database)
    check_licence(licence)
    return isinstance(value, Database) and first_barrier(database, licence, value) is None


def barrier(database, licence, other):
    """Return the smallest row in which the databases differ and that cannot change, or None."""
    check_database(database)
    check_licence(licence)
    check_database(other)
    return first_barrier(database, licence, other)


def choices(rows, many):
    """Return the list of all ways to take so many of the rows, in the order of the rows."""
    return list(combinations(rows, many))


def futures(database, licence, rows):
    """Yield the futures that differ from the database only in these rows."""
    check_database(database)
    check_licence(licence)
    if not isinstance(rows, tuple):
        raise InvalidOperation("not a tuple of rows")
    check_rows(rows)
    able = [row for row in sorted(set(rows)) if is_changeable(database, licence, row)]
    if len(able) > MAX_CHANGES:
        raise TooMany(MAX_CHANGES)
    firm = [row for row in database.rows if row not in able]
    there = [row for row in able if row in database]
    for many in range(len(able) + 1):
        for chosen in choices(able, many):
            stays = [row for row in there if row not in chosen]
            comes = [row for row in chosen if row not in there]
            yield made(tuple(sorted(firm + stays + comes)))
