"""Case trees: they show that an answer stays, whatever comes and goes."""

from firmrows.ask.molds import Mold
from firmrows.ask.rules import variables_in
from firmrows.base.databases import check_database
from firmrows.base.rows import is_integer, is_integers, is_row
from firmrows.errors import InvalidOperation
from firmrows.papers.checks import check_case
from firmrows.papers.grounds import Ground

ASK = "ask"
MATCH = "match"
MAX_DEPTH = 20


def is_node(value):
    """Return whether the value has the form of one node; what stands below it does not matter."""
    if not isinstance(value, tuple):
        return False
    if len(value) == 4:
        return value[0] == ASK and is_row(value[1])
    if len(value) == 3:
        return value[0] == MATCH and is_integer(value[1]) and value[1] >= 0 and is_integers(value[2])
    return False


def is_leaf(node):
    """Return whether a node is a leaf."""
    return node[0] == MATCH


def below(nodes):
    """Return the list of the nodes directly below some nodes."""
    return [part for node in nodes if not is_leaf(node) for part in node[2:]]


def is_tree(value):
    """Return whether the value has the form of a case tree of a depth of at most 20."""
    level = [value]
    for _ in range(MAX_DEPTH + 1):
        for node in level:
            if not is_node(node):
                return False
        level = below(level)
        if len(level) == 0:
            return True
    return False


def check_tree(tree):
    """Raise InvalidOperation if the value has not the form of a case tree."""
    if not is_tree(tree):
        raise InvalidOperation("not a case tree of a depth of at most 20")


def depth(tree):
    """Return the greatest number of inner nodes on a way to a leaf."""
    check_tree(tree)
    many = 0
    level = below([tree])
    while len(level) > 0:
        many = many + 1
        level = below(level)
    return many


def asked(tree):
    """Return the ascending tuple of all rows that are asked anywhere in the tree."""
    check_tree(tree)
    rows = []
    level = [tree]
    while len(level) > 0:
        rows.extend([node[1] for node in level if not is_leaf(node)])
        level = below(level)
    return tuple(sorted(set(rows)))


def leaf_at(tree, database):
    """Return the leaf to which a database goes down."""
    check_tree(tree)
    check_database(database)
    node = tree
    while not is_leaf(node):
        node = node[2] if node[1] in database else node[3]
    return node


def molds_of(question):
    """Return the list of the molds of the rules of a question."""
    return [Mold(rule, variables_in(rule), ()) for rule in question.rules]


class TreeCheck:
    """Whether case trees are right for the rules of some molds, a ground and an answer.

    In its methods `there` and `away` are the tuples of the rows that were found there,
    or not there, on the way to a node.
    """

    def __init__(self, molds, ground, answer):
        self._molds = molds
        self._ground = ground
        self._answer = answer

    def known(self, row, there, away):
        """Return whether a row is there in all futures that come to a node, or None if it differs."""
        if row in there:
            return True
        if row in away:
            return False
        return self._ground.settled(row)

    def is_right_leaf(self, leaf, there, away):
        """Return whether a leaf to which some future goes down shows the answer."""
        _, index, integers = leaf
        if index >= len(self._molds):
            return False
        mold = self._molds[index]
        line = mold.line(integers)
        if line is None or mold.head_of(line) != self._answer or not mold.is_unlike(line):
            return False
        for row in mold.wanted_of(line):
            if self.known(row, there, away) is not True:
                return False
        for row in mold.barred_of(line):
            if self.known(row, there, away) is not False:
                return False
        return True

    def is_right(self, node, there, away):
        """Return whether all leaves below a node to which some future goes down are right."""
        if is_leaf(node):
            return self.is_right_leaf(node, there, away)
        _, row, yes, no = node
        is_there = self.known(row, there, away)
        if is_there is not None:
            return self.is_right(yes if is_there else no, there, away)
        return self.is_right(yes, there + (row,), away) and self.is_right(no, there, away + (row,))


def is_right_tree(question, database, licence, answer, value):
    """Return what `is_case_tree` returns, for arguments that are checked."""
    check = TreeCheck(molds_of(question), Ground(database, licence), answer)
    return is_tree(value) and check.is_right(value, (), ())


def is_case_tree(question, database, licence, answer, value):
    """Return whether the value is a right case tree of a depth of at most 20."""
    check_case(question, database, licence, answer)
    return is_right_tree(question, database, licence, answer, value)
