"""Licences: which rows may come, and which may go."""

from firmrows.base.patterns import plain_form, put_in
from firmrows.base.rows import check_pattern, check_row, is_pattern
from firmrows.errors import InvalidLicence, InvalidOperation
from firmrows.future.parts import ANY, Part


class Licence:
    """Which rows may come and which may go. It never changes."""

    def __init__(self, *, come=(), go=(), shut=(), kept=()):
        for part in (come, go):
            if part != ANY:
                check_part(part)
        check_part(shut)
        check_part(kept)
        self._come = ordered(come)
        self._go = ordered(go)
        self._shut = ordered(shut)
        self._kept = ordered(kept)
        self._coming = Part(self._come)
        self._going = Part(self._go)
        self._shutting = Part(self._shut)
        self._keeping = Part(self._kept)

    @property
    def come(self):
        """The patterns of the rows that may come, or "any"."""
        return self._come

    @property
    def go(self):
        """The patterns of the rows that may go, or "any"."""
        return self._go

    @property
    def shut(self):
        """The patterns of the rows that may not come."""
        return self._shut

    @property
    def kept(self):
        """The patterns of the rows that may not go."""
        return self._kept

    @property
    def numbers(self):
        """The ascending tuple of the integers in the patterns."""
        patterns = listed(self._come) + listed(self._go) + self._shut + self._kept
        terms = [term for pattern in patterns for term in pattern[1:]]
        return tuple(sorted(set([term for term in terms if isinstance(term, int)])))

    def may_come(self, row):
        """Return whether the row may come, whatever the database."""
        check_row(row)
        return self._coming.has_all(row) and not self._shutting.has_all(row)

    def may_go(self, row):
        """Return whether the row may go, whatever the database."""
        check_row(row)
        return self._going.has_all(row) and not self._keeping.has_all(row)

    def comings(self, pattern):
        """Return what the blanks of a pattern become in its rows that may come: a list of dicts.

        A dict tells of blanks that must become integers, or equal, to fit a pattern of `come`. There is none
        for rows that are all shut. As there are endlessly many integers, that is so only if one pattern of
        `shut` covers them all.
        """
        tables = self._coming.meetings(pattern)
        return [table for table in tables if not self._shutting.has_all(put_in(pattern, table))]

    def sealed(self, *patterns, come=True, go=True):
        """Return the licence under which rows of these patterns may not come, or not go."""
        for pattern in patterns:
            check_pattern(pattern)
        if not isinstance(come, bool) or not isinstance(go, bool):
            raise InvalidOperation("come and go are True or False")
        shut = self._shut + patterns if come else self._shut
        kept = self._kept + patterns if go else self._kept
        return Licence(come=self._come, go=self._go, shut=shut, kept=kept)

    def __bool__(self):
        return bool(self._come) or bool(self._go)

    def __eq__(self, other):
        if not isinstance(other, Licence):
            return False
        if self._come != other._come or self._go != other._go:
            return False
        return self._shut == other._shut and self._kept == other._kept

    def __str__(self):
        return ", ".join([
            f"licence: {told(self._come)} come",
            f"{told(self._go)} go",
            f"{told(self._shut)} shut",
            f"{told(self._kept)} kept",
        ])


def check_part(part):
    """Raise InvalidLicence if the value is not a tuple of patterns."""
    if not isinstance(part, tuple) or not all([is_pattern(pattern) for pattern in part]):
        raise InvalidLicence("not a tuple of patterns")


def place_of(pattern):
    """Return what patterns are ordered by; an integer stands ahead of a blank."""
    return (pattern[0], len(pattern), [(isinstance(term, str), term) for term in pattern[1:]])


def ordered(part):
    """Return the different plain patterns of a part of a licence in their order, or "any"."""
    if part == ANY:
        return ANY
    different = {plain_form(pattern): True for pattern in part}
    return tuple(sorted(list(different), key=place_of))


def listed(part):
    """Return the patterns that a part of a licence lists; "any" lists none."""
    return () if part == ANY else part


def told(part):
    """Return the word for how many patterns a part of a licence has."""
    return ANY if part == ANY else str(len(part))


def check_licence(licence):
    """Raise InvalidLicence if the value is not a licence."""
    if not isinstance(licence, Licence):
        raise InvalidLicence("not a licence")
