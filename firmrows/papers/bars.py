"""Bar trees: they show that a rule cannot have an answer, whatever comes and goes."""

from firmrows.ask.questions import check_index
from firmrows.ask.rules import variables_in
from firmrows.base.patterns import bound, is_filling, put_in, put_in_terms
from firmrows.base.rows import is_integer, is_name, is_term
from firmrows.errors import InvalidOperation
from firmrows.papers.checks import check_case
from firmrows.papers.equal import has_equal, makes_equal, start_of, states_below

IS = "is"
PAIR = "pair"
STAYS = "stays"
BOTH = "both"
NEVER = "never"
NONE = "none"
INDICES = {"pair": 1, "stays": 1, "both": 2, "never": 1, "none": 0}
MAX_DEPTH = 20


def is_reason(value):
    """Return whether the value has the form of a leaf."""
    if not isinstance(value, tuple) or len(value) == 0 or not isinstance(value[0], str):
        return False
    if value[0] not in INDICES or len(value) != 1 + INDICES[value[0]]:
        return False
    return all([is_integer(part) and part >= 0 for part in value[1:]])


def is_case(value, variable):
    """Return whether the value is a pair of a term other than the variable and anything."""
    return isinstance(value, tuple) and len(value) == 2 and is_term(value[0]) and value[0] != variable


def is_choice(value):
    """Return whether the value has the form of an inner node; what stands below it does not matter."""
    if not isinstance(value, tuple) or len(value) != 4 or value[0] != IS or not is_name(value[1]):
        return False
    variable, cases = value[1], value[2]
    if not isinstance(cases, tuple) or not all([is_case(case, variable) for case in cases]):
        return False
    return len(set([case[0] for case in cases])) == len(cases)


def is_inner(node):
    """Return whether a node of a bar tree is an inner one."""
    return node[0] == IS


def below(nodes):
    """Return the list of the nodes directly below some nodes."""
    inner = [node for node in nodes if is_inner(node)]
    return [tree for node in inner for _, tree in node[2]] + [node[3] for node in inner]


def is_bars(value):
    """Return whether the value has the form of a bar tree of a depth of at most 20."""
    level = [value]
    for _ in range(MAX_DEPTH + 1):
        if not all([is_reason(node) or is_choice(node) for node in level]):
            return False
        level = below(level)
    return len(level) == 0


def names_and_reasons(tree):
    """Return two dicts: the keys of one are all names in a bar tree, those of the other one are its leaves."""
    names = {}
    reasons = {}
    level = [tree]
    while len(level) > 0:
        for node in level:
            if is_inner(node):
                names[node[1]] = True
                names.update({term: True for term, _ in node[2] if isinstance(term, str)})
            else:
                reasons[node] = True
        level = below(level)
    return (names, reasons)


def next_node(node, numbers):
    """Return the node directly below an inner one to which the integers of a dict go down."""
    _, variable, cases, other = node
    for term, tree in cases:
        if numbers.get(term, term) == numbers[variable]:
            return tree
    return other


def reason_at(tree, numbers):
    """Return the leaf to which the integers of a dict go down."""
    if not is_bars(tree):
        raise InvalidOperation("not a bar tree of a depth of at most 20")
    names, _ = names_and_reasons(tree)
    if not is_filling(numbers, list(names)):
        raise InvalidOperation("not a dict from names to integers that has all names in the tree")
    node = tree
    while is_inner(node):
        node = next_node(node, numbers)
    return node


class BarCheck:
    """Whether bar trees are right for a rule, a database and a licence.

    In its methods a state tells of the integers that go down to a node. If two of its variables are not
    said to be equal, they can be different, and a variable can be any of endlessly many integers.
    """

    def __init__(self, rule, database, licence):
        self._rule = rule
        self._database = database
        self._licence = licence

    def escapes(self, pattern, unlike):
        """Return what blanks can become so that the row of a pattern is there or may come: a list of dicts."""
        found = [bound(pattern, row) for row in self._database.rows]
        tables = [table for table in found if table is not None] + self._licence.comings(pattern)
        return [table for table in tables if not makes_equal(table, unlike)]

    def has_indices(self, reason):
        """Return whether the pair or the patterns that a leaf tells of exist."""
        _, wanted, barred, unlike = self._rule
        word = reason[0]
        if word == PAIR:
            return reason[1] < len(unlike)
        if word == STAYS:
            return reason[1] < len(barred)
        if word == BOTH:
            return reason[1] < len(wanted) and reason[2] < len(barred)
        return word == NONE or reason[1] < len(wanted)

    def holds(self, reason, state):
        """Return whether all integers of a state, of which there are some, are barred for a reason."""
        table, differing = state
        _, wanted, barred, unlike = self._rule
        word = reason[0]
        if word == PAIR:
            return has_equal((put_in_terms(unlike[reason[1]], table),))
        if word == STAYS:
            row = put_in(barred[reason[1]], table)
            return row in self._database and not self._licence.may_go(row)
        if word == BOTH:
            return put_in(wanted[reason[1]], table) == put_in(barred[reason[2]], table)
        if word == NEVER:
            return len(self.escapes(put_in(wanted[reason[1]], table), differing)) == 0
        return False

    def is_right(self, node, state):
        """Return whether all leaves below a node are right, if their indices exist."""
        if state is None:
            return True
        if not is_inner(node):
            return self.holds(node, state)
        _, variable, cases, other = node
        states = states_below(state, variable, [term for term, _ in cases])
        trees = [tree for _, tree in cases] + [other]
        for k in range(len(trees)):
            if not self.is_right(trees[k], states[k]):
                return False
        return True


def is_bar_tree_of(rule, database, licence, answer, value):
    """Return what `is_bar_tree` returns, for arguments that are checked."""
    if not is_bars(value):
        return False
    variables = variables_in(rule)
    names, reasons = names_and_reasons(value)
    check = BarCheck(rule, database, licence)
    if not all([name in variables for name in names]) or not all([check.has_indices(reason) for reason in reasons]):
        return False
    return check.is_right(value, start_of(rule, answer))


def is_bar_tree(question, database, licence, answer, index, value):
    """Return whether the value is a right bar tree of the rule with this index."""
    check_case(question, database, licence, answer)
    check_index(question, index)
    return is_bar_tree_of(question.rules[index], database, licence, answer, value)
