"""Databases: finite sets of rows."""

from firmrows.base.patterns import bound, put_in
from firmrows.base.rows import check_pattern, check_rows, is_exchange, is_integers, is_row
from firmrows.errors import InvalidDatabase, InvalidOperation


class Database:
    """A finite set of rows. It never changes."""

    def __init__(self, *rows):
        check_rows(rows)
        self._rows = tuple(sorted(set(rows)))
        self._held = None
        self._places = None

    @classmethod
    def of(cls, rows):
        """Return the database with the rows of a tuple."""
        if not isinstance(rows, tuple):
            raise InvalidDatabase("the rows of a database are a tuple")
        return cls(*rows)

    @property
    def _table(self):
        """A dict whose keys are the rows, made when it is first asked for."""
        if self._held is None:
            self._held = {row: True for row in self._rows}
        return self._held

    @property
    def rows(self):
        """The ascending tuple of the rows."""
        return self._rows

    @property
    def numbers(self):
        """The ascending tuple of the integers in the rows."""
        return tuple(sorted(set([number for row in self._rows for number in row[1:]])))

    @property
    def tables(self):
        """The ascending tuple of the pairs (name, how many integers) of the tables with rows."""
        return tuple(sorted(set([(row[0], len(row) - 1) for row in self._rows])))

    def with_rows(self, *rows):
        """Return the database with these rows put in."""
        check_rows(rows)
        return made(tuple(sorted(set(self._rows + rows))))

    def without_rows(self, *rows):
        """Return the database with these rows taken out."""
        check_rows(rows)
        return made(tuple([row for row in self._rows if row not in rows]))

    def fitting(self, pattern):
        """Yield the rows that fit a pattern, ascending."""
        check_pattern(pattern)
        for row in self.near(pattern):
            if bound(pattern, row) is not None:
                yield row

    def near(self, pattern):
        """Return a tuple of rows, ascending, among them all that fit a pattern, and few others."""
        if self._places is None:
            self._places = places_of(self._rows)
        table = (pattern[0], len(pattern))
        best = self._places.get(table, ())
        for place, term in enumerate(pattern[1:]):
            if isinstance(term, int):
                found = self._places.get(table + (place, term), ())
                best = found if len(found) < len(best) else best
        return best

    def cut(self, numbers):
        """Return the database of the rows all of whose integers are in a tuple."""
        if not is_integers(numbers):
            raise InvalidOperation("not a tuple of integers")
        return made(tuple([row for row in self._rows if all([number in numbers for number in row[1:]])]))

    def moved(self, numbers):
        """Return the database in which the integers that are keys of a dict are replaced."""
        if not is_exchange(numbers):
            raise InvalidOperation("not a dict from integers to integers")
        before = self.numbers
        if len(set([numbers.get(number, number) for number in before])) < len(before):
            raise InvalidOperation("two different integers of the database would become equal")
        return made(tuple(sorted([put_in(row, numbers) for row in self._rows])))

    def is_within(self, value):
        """Return whether the value is a database that has all rows of this one."""
        if not isinstance(value, Database):
            return False
        theirs = value._table
        return all([row in theirs for row in self._rows])

    def __or__(self, other):
        check_other(other)
        return made(tuple(sorted(set(self._rows + other._rows))))

    def __and__(self, other):
        check_other(other)
        theirs = other._table
        return made(tuple([row for row in self._rows if row in theirs]))

    def __sub__(self, other):
        check_other(other)
        theirs = other._table
        return made(tuple([row for row in self._rows if row not in theirs]))

    def __xor__(self, other):
        check_other(other)
        ours, theirs = self._table, other._table
        rows = [row for row in self._rows if row not in theirs] + [row for row in other._rows if row not in ours]
        return made(tuple(sorted(rows)))

    def __contains__(self, value):
        # ("t", True) is equal to ("t", 1), but it is no row.
        return is_row(value) and value in self._table

    def __len__(self):
        return len(self._rows)

    def __eq__(self, other):
        return isinstance(other, Database) and self._rows == other._rows

    def __str__(self):
        return f"database of {len(self._rows)} rows"


def places_of(rows):
    """Return a dict from tables, and from tables with a place and an integer, to the tuples of the rows with these."""
    lists = {}
    for row in rows:
        table = (row[0], len(row))
        lists.setdefault(table, []).append(row)
        for place, number in enumerate(row[1:]):
            lists.setdefault(table + (place, number), []).append(row)
    return {key: tuple(lists[key]) for key in lists}


def made(rows):
    """Return the database of an ascending tuple of rows that are known to be rows."""
    database = Database()
    database._rows = rows
    return database


def check_other(other):
    """Raise InvalidOperation if the other value of an operator is not a database."""
    if not isinstance(other, Database):
        raise InvalidOperation("the other value is not a database")


def check_database(database):
    """Raise InvalidDatabase if the value is not a database."""
    if not isinstance(database, Database):
        raise InvalidDatabase("not a database")
