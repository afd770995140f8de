"""Parts of a licence: patterns, sorted so that few of them are looked at."""

from firmrows.base.patterns import bound, meeting

ANY = "any"


def has_blanks(pattern):
    """Return whether there is a blank in a pattern."""
    return len([term for term in pattern[1:] if isinstance(term, str)]) > 0


def keys_of(pattern):
    """Return the keys under which a pattern is kept: its table, and one for each term, blanks being None."""
    table = (pattern[0], len(pattern))
    terms = [None if isinstance(term, str) else term for term in pattern[1:]]
    return [table] + [table + (place, term) for place, term in enumerate(terms)]


class Part:
    """The patterns of a part of a licence, or "any"."""

    def __init__(self, patterns):
        self._is_any = patterns == ANY
        listed = () if self._is_any else patterns
        self._have = {pattern: True for pattern in listed}
        self._lists = {}
        self._wide = {}
        for pattern in listed:
            keys = keys_of(pattern)
            for key in keys:
                self._lists.setdefault(key, []).append(pattern)
            if has_blanks(pattern):
                self._wide.setdefault(keys[0], []).append(pattern)

    def has_all(self, pattern):
        """Return whether all rows of a pattern fit one and the same pattern of the part."""
        if self._is_any or pattern in self._have:
            return True
        for wide in self._wide.get((pattern[0], len(pattern)), ()):
            if bound(wide, pattern) is not None:
                return True
        return False

    def near(self, pattern):
        """Return a list of patterns, among them all that some row of a pattern fits."""
        table = (pattern[0], len(pattern))
        for place, term in enumerate(pattern[1:]):
            if isinstance(term, int):
                key = table + (place,)
                return self._lists.get(key + (term,), []) + self._lists.get(key + (None,), [])
        return self._lists.get(table, [])

    def meetings(self, pattern):
        """Return what the blanks of a pattern become where its rows fit the part: a list of dicts."""
        if not has_blanks(pattern):
            return [{}] if self.has_all(pattern) else []
        if self._is_any:
            return [{term: term for term in pattern[1:] if isinstance(term, str)}]
        tables = [meeting(pattern, other) for other in self.near(pattern)]
        return [table for table in tables if table is not None]
