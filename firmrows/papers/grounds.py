"""Grounds: which rows are there at first, and which ones can change."""

from firmrows.future.futures import is_changeable


class Ground:
    """A database and a licence."""

    def __init__(self, database, licence):
        self._database = database
        self._licence = licence
        self._known = {}

    def first_rows(self):
        """Return the ascending tuple of the rows that are there at first."""
        return self._database.rows

    def settled(self, row):
        """Return whether a row is there in every future, or None if it can change."""
        if row not in self._known:
            can = is_changeable(self._database, self._licence, row)
            self._known[row] = None if can else row in self._database
        return self._known[row]


class FrozenGround:
    """Some rows that stay, and rows that are away and never come; all others may come."""

    def __init__(self, rows, away):
        self._first = rows
        self._known = {row: False for row in away}
        for row in rows:
            self._known[row] = True

    def first_rows(self):
        """Return the ascending tuple of the rows that are there at first."""
        return self._first

    def settled(self, row):
        """Return whether a row is there in every future, or None if it can change."""
        return self._known.get(row)
