"""Databases: finite sets of rows."""

from firmrows.base.patterns import bound, put_in
from firmrows.base.rows import check_pattern, check_rows, is_exchange, is_integers, is_row
from firmrows.errors import InvalidDatabase, InvalidOperation


class Database:
    """A finite set of rows. It never changes."""

    def __init__(self, *rows):
        check_rows(rows)
        self._rows = tuple(sorted(set(rows)))
        self._have = {row: True for row in self._rows}

    @classmethod
    def of(cls, rows):
        """Return the database with the rows of a tuple."""
        if not isinstance(rows, tuple):
            raise InvalidDatabase("the rows of a database are a tuple")
        return cls(*rows)

    @property
    def rows(self):
        """The ascending tuple of the rows."""
        return self._rows

    @property
    def numbers(self):
        """The ascending tuple of the integers in the rows."""
        return tuple(sorted(set([number for row in self._rows for number in row[1:]])))

    @property
    def tables(self):
        """The ascending tuple of the pairs (name, how many integers) of the tables with rows."""
        return tuple(sorted(set([(row[0], len(row) - 1) for row in self._rows])))

    def with_rows(self, *rows):
        """Return the database with these rows put in."""
        every = self._rows + rows
        return Database(*every)

    def without_rows(self, *rows):
        """Return the database with these rows taken out."""
        return self - Database(*rows)

    def fitting(self, pattern):
        """Yield the rows that fit a pattern, ascending."""
        check_pattern(pattern)
        for row in self._rows:
            if bound(pattern, row) is not None:
                yield row

    def cut(self, numbers):
        """Return the database of the rows all of whose integers are in a tuple."""
        if not is_integers(numbers):
            raise InvalidOperation("not a tuple of integers")
        rows = [row for row in self._rows if all([number in numbers for number in row[1:]])]
        return Database(*rows)

    def moved(self, numbers):
        """Return the database in which the integers that are keys of a dict are replaced."""
        if not is_exchange(numbers):
            raise InvalidOperation("not a dict from integers to integers")
        before = self.numbers
        if len(set([numbers.get(number, number) for number in before])) < len(before):
            raise InvalidOperation("two different integers of the database would become equal")
        rows = [put_in(row, numbers) for row in self._rows]
        return Database(*rows)

    def is_within(self, value):
        """Return whether the value is a database that has all rows of this one."""
        return isinstance(value, Database) and all([row in value for row in self._rows])

    def __or__(self, other):
        check_other(other)
        rows = self._rows + other._rows
        return Database(*rows)

    def __and__(self, other):
        check_other(other)
        rows = [row for row in self._rows if row in other._have]
        return Database(*rows)

    def __sub__(self, other):
        check_other(other)
        rows = [row for row in self._rows if row not in other._have]
        return Database(*rows)

    def __xor__(self, other):
        check_other(other)
        ours = [row for row in self._rows if row not in other._have]
        theirs = [row for row in other._rows if row not in self._have]
        rows = ours + theirs
        return Database(*rows)

    def __contains__(self, value):
        # ("t", True) is equal to ("t", 1), but it is no row.
        return is_row(value) and value in self._have

    def __len__(self):
        return len(self._rows)

    def __eq__(self, other):
        return isinstance(other, Database) and self._rows == other._rows

    def __str__(self):
        return f"database of {len(self._rows)} rows"


def check_other(other):
    """Raise InvalidOperation if the other value of an operator is not a database."""
    if not isinstance(other, Database):
        raise InvalidOperation("the other value is not a database")


def check_database(database):
    """Raise InvalidDatabase if the value is not a database."""
    if not isinstance(database, Database):
        raise InvalidDatabase("not a database")
