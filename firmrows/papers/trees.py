"""Case trees: they show that an answer stays, whatever comes and goes."""

from firmrows.ask.rules import put_in_rule, variables_in
from firmrows.base.databases import check_database
from firmrows.base.rows import is_integer, is_integers, is_row
from firmrows.errors import InvalidOperation
from firmrows.future.futures import is_changeable
from firmrows.papers.checks import check_case

ASK = "ask"
MATCH = "match"
MAX_DEPTH = 20


def is_node(value):
    """Return whether the value has the form of one node; what stands below it does not matter."""
    if not isinstance(value, tuple):
        return False
    if len(value) == 4:
        return value[0] == ASK and is_row(value[1])
    if len(value) == 3:
        return value[0] == MATCH and is_integer(value[1]) and value[1] >= 0 and is_integers(value[2])
    return False


def is_leaf(node):
    """Return whether a node is a leaf."""
    return node[0] == MATCH


def below(nodes):
    """Return the list of the nodes directly below some nodes."""
    return [part for node in nodes if not is_leaf(node) for part in node[2:]]


def is_tree(value):
    """Return whether the value has the form of a case tree of a depth of at most 20."""
    level = [value]
    for _ in range(MAX_DEPTH + 1):
        if not all([is_node(node) for node in level]):
            return False
        level = below(level)
    return len(level) == 0


def check_tree(tree):
    """Raise InvalidOperation if the value has not the form of a case tree."""
    if not is_tree(tree):
        raise InvalidOperation("not a case tree of a depth of at most 20")


def depth(tree):
    """Return the greatest number of inner nodes on a way to a leaf."""
    check_tree(tree)
    many = 0
    level = below([tree])
    while len(level) > 0:
        many = many + 1
        level = below(level)
    return many


def asked(tree):
    """Return the ascending tuple of all rows that are asked anywhere in the tree."""
    check_tree(tree)
    rows = []
    level = [tree]
    while len(level) > 0:
        rows.extend([node[1] for node in level if not is_leaf(node)])
        level = below(level)
    return tuple(sorted(set(rows)))


def leaf_at(tree, database):
    """Return the leaf to which a database goes down."""
    check_tree(tree)
    check_database(database)
    node = tree
    while not is_leaf(node):
        node = node[2] if node[1] in database else node[3]
    return node


class TreeCheck:
    """Whether case trees are right for a question, a database, a licence and an answer.

    In its methods `there` and `away` are the tuples of the rows that were found there,
    or not there, on the way to a node.
    """

    def __init__(self, question, database, licence, answer):
        self._question = question
        self._database = database
        self._licence = licence
        self._answer = answer
        self._settled = {}

    def settled(self, row):
        """Return whether a row is there in every future, or None if it can change."""
        if row not in self._settled:
            can = is_changeable(self._database, self._licence, row)
            self._settled[row] = None if can else row in self._database
        return self._settled[row]

    def known(self, row, there, away):
        """Return whether a row is there in all futures that come to a node, or None if it differs."""
        if row in there:
            return True
        if row in away:
            return False
        return self.settled(row)

    def is_right_leaf(self, leaf, there, away):
        """Return whether a leaf to which some future goes down shows the answer."""
        _, index, integers = leaf
        if index >= len(self._question):
            return False
        rule = self._question.rules[index]
        variables = variables_in(rule)
        if len(variables) != len(integers):
            return False
        head, wanted, barred, unlike = put_in_rule(rule, dict(zip(variables, integers)))
        if head != self._answer or not all([one != other for one, other in unlike]):
            return False
        if not all([self.known(row, there, away) is True for row in wanted]):
            return False
        return all([self.known(row, there, away) is False for row in barred])

    def is_right(self, node, there, away):
        """Return whether all leaves below a node to which some future goes down are right."""
        if is_leaf(node):
            return self.is_right_leaf(node, there, away)
        _, row, yes, no = node
        is_there = self.known(row, there, away)
        if is_there is not None:
            return self.is_right(yes if is_there else no, there, away)
        return self.is_right(yes, there + (row,), away) and self.is_right(no, there, away + (row,))


def is_right_tree(question, database, licence, answer, value):
    """Return what `is_case_tree` returns, for arguments that are checked."""
    check = TreeCheck(question, database, licence, answer)
    return is_tree(value) and check.is_right(value, (), ())


def is_case_tree(question, database, licence, answer, value):
    """Return whether the value is a right case tree of a depth of at most 20."""
    check_case(question, database, licence, answer)
    return is_right_tree(question, database, licence, answer, value)
