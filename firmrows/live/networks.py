"""Networks: nodes that show answers although rows come late and in any order."""

from firmrows.base.databases import Database
from firmrows.base.rows import check_rows, is_integers, is_name
from firmrows.errors import InvalidOperation, UnknownName
from firmrows.live.moves import check_many_rows

MAX_NODES = 6
LATE = "late"


def check_way(way):
    """Raise InvalidOperation if the value is surely no way of showing."""
    if way is None or isinstance(way, (bool, int, str, tuple, list, dict)):
        raise InvalidOperation("not a way of showing")


def check_parts(parts):
    """Raise InvalidOperation if the value is not a dict from one to six names to databases."""
    if not isinstance(parts, dict) or not 1 <= len(parts) <= MAX_NODES:
        raise InvalidOperation("not a dict from one to six names to databases")
    if not all([is_name(name) and isinstance(parts[name], Database) for name in parts]):
        raise InvalidOperation("not a dict from names to databases")


def whole_of(parts):
    """Return the database with the rows of all parts."""
    rows = [row for name in parts for row in parts[name].rows]
    return Database(*rows)


def joined(answers, more):
    """Return the ascending tuple of the answers in one or both of two tuples."""
    return tuple(sorted(set(answers + more)))


def show_nothing(database):
    """Return no answers, whatever the database is."""
    return ()


class Network:
    """Nodes with parts of a whole, whose rows come to all nodes in any order."""

    def __init__(self, way, parts):
        check_way(way)
        check_parts(parts)
        names = sorted(list(parts))
        whole = whole_of(parts)
        check_many_rows(whole)
        self._way = way
        self._whole = whole
        self._parts = {name: parts[name] for name in names}
        self._at = {name: parts[name] for name in names}
        self._shown = {name: joined((), way(parts[name])) for name in names}

    @property
    def names(self):
        """The ascending tuple of the names of the nodes."""
        return tuple(list(self._parts))

    @property
    def whole(self):
        """The database with the rows of all parts."""
        return self._whole

    @property
    def shown(self):
        """The ascending tuple of the answers that some node has shown."""
        return tuple(sorted(set([answer for name in self._shown for answer in self._shown[name]])))

    @property
    def waiting(self):
        """The ascending tuple of the pairs (name, row) of the rows that have not come to a node."""
        rows = self._whole.rows
        return tuple([(name, row) for name in self._at for row in rows if row not in self._at[name]])

    def _check_name(self, name):
        """Raise UnknownName if no node has this name."""
        if not isinstance(name, str) or name not in self._at:
            raise UnknownName(name)

    def at(self, name):
        """Return the database that a node has now."""
        self._check_name(name)
        return self._at[name]

    def shown_by(self, name):
        """Return the ascending tuple of the answers that a node has shown."""
        self._check_name(name)
        return self._shown[name]

    def bring(self, name, *rows):
        """Bring rows to a node, all at once, and return the answers that the network shows for the first time."""
        self._check_name(name)
        check_rows(rows)
        there = self._at[name]
        for k, row in enumerate(rows):
            if row in there or row not in self._whole or row in rows[:k]:
                raise InvalidOperation("a row that does not wait for this node")
        if len(rows) == 0:
            return ()
        way, before = self._way, self.shown
        later = there.with_rows(*rows)
        shown = joined(self._shown[name], way(later))
        self._at = {**self._at, name: later}
        self._shown = {**self._shown, name: shown}
        return tuple([answer for answer in self.shown if answer not in before])

    def finish(self):
        """Bring all rows that wait, one after another, and return the answers that some node has shown."""
        way, at, shown = self._way, {**self._at}, {**self._shown}
        for name, row in self.waiting:
            at[name] = at[name].with_rows(row)
            shown[name] = joined(shown[name], way(at[name]))
        # Only now, as nothing changes if the way raises an error.
        self._at = at
        self._shown = shown
        return self.shown

    def twin(self):
        """Return an independent equal network."""
        other = Network(show_nothing, {"a": Database()})
        other._way = self._way
        other._whole = self._whole
        other._parts = self._parts
        other._at = self._at
        other._shown = self._shown
        return other

    def __len__(self):
        return len(self.waiting)

    def __eq__(self, other):
        if not isinstance(other, Network) or self._way != other._way:
            return False
        if self._parts != other._parts or self._at != other._at:
            return False
        return self._shown == other._shown

    def __str__(self):
        return f"network of {len(self._parts)} nodes, {len(self.waiting)} rows waiting"


def check_late(paper):
    """Raise InvalidOperation if the value has not the form of the paper of a late question."""
    if not isinstance(paper, tuple) or len(paper) != 4 or paper[0] != LATE:
        raise InvalidOperation("not the paper of a late question")
    _, small, great, answer = paper
    if not isinstance(small, Database) or not small.is_within(great) or not is_integers(answer):
        raise InvalidOperation("not two databases, the first one within the second one, and an answer")


def trap(paper, way):
    """Return a network in which a way fails for the late question of a paper."""
    check_late(paper)
    check_way(way)
    _, small, great, answer = paper
    if answer in way(small):
        return ("wrong", {"a": small, "b": great - small})
    return ("missing", {"a": small})
