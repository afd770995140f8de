"""Bar trees: they show that a rule cannot have an answer, whatever comes and goes."""

from firmrows.ask.questions import check_index
from firmrows.ask.rules import variables_in
from firmrows.base.patterns import bound, is_filling, put_in, put_in_terms
from firmrows.base.rows import is_name
from firmrows.errors import InvalidOperation
from firmrows.papers.checks import check_case
from firmrows.papers.equal import case_state, has_equal, makes_equal, parted, start_of

IS = "is"
PAIR = "pair"
STAYS = "stays"
BOTH = "both"
NEVER = "never"
NONE = "none"
INDICES = {"pair": 1, "stays": 1, "both": 2, "never": 1, "none": 0}
MAX_DEPTH = 20


def is_reason(node):
    """Return whether a tuple that is not empty has the form of a leaf."""
    word = node[0]
    if not isinstance(word, str) or len(node) != 1 + INDICES.get(word, -1):
        return False
    for part in node[1:]:
        if not isinstance(part, int) or isinstance(part, bool) or part < 0:
            return False
    return True


def is_inner(node):
    """Return whether a node of a bar tree is an inner one."""
    return node[0] == IS


def add_choice(node, names, deeper):
    """Return whether an inner node has its form, but for what stands below it and which strings are names.

    Its strings are added to the keys of a dict, and the nodes directly below it to a list.
    """
    if len(node) != 4 or not isinstance(node[1], str) or not isinstance(node[2], tuple):
        return False
    _, variable, cases, other = node
    names[variable] = True
    terms = {variable: True}
    for case in cases:
        if not isinstance(case, tuple) or len(case) != 2:
            return False
        term, below = case
        if isinstance(term, str):
            names[term] = True
        elif not isinstance(term, int) or isinstance(term, bool):
            return False
        terms[term] = True
        deeper.append(below)
    deeper.append(other)
    # The terms are different, and none is the variable.
    return len(terms) == len(cases) + 1


def names_and_reasons(value):
    """Return two dicts, or None if the value has not the form of a bar tree of a depth of at most 20.

    The keys of one are all names in the tree, those of the other one are its leaves.
    """
    names, reasons = {}, {}
    level = [value]
    for _ in range(MAX_DEPTH + 1):
        deeper = []
        for node in level:
            if not isinstance(node, tuple) or len(node) == 0:
                return None
            if node[0] == IS:
                if not add_choice(node, names, deeper):
                    return None
            elif is_reason(node):
                reasons[node] = True
            else:
                return None
        if len(deeper) == 0:
            return (names, reasons) if all([is_name(name) for name in names]) else None
        level = deeper
    return None


def is_bars(value):
    """Return whether the value has the form of a bar tree of a depth of at most 20."""
    return names_and_reasons(value) is not None


def next_node(node, numbers):
    """Return the node directly below an inner one to which the integers of a dict go down."""
    _, variable, cases, other = node
    for term, tree in cases:
        if numbers.get(term, term) == numbers[variable]:
            return tree
    return other


def reason_at(tree, numbers):
    """Return the leaf to which the integers of a dict go down."""
    scanned = names_and_reasons(tree)
    if scanned is None:
        raise InvalidOperation("not a bar tree of a depth of at most 20")
    if not is_filling(numbers, list(scanned[0])):
        raise InvalidOperation("not a dict from names to integers that has all names in the tree")
    node = tree
    while is_inner(node):
        node = next_node(node, numbers)
    return node


class BarCheck:
    """Whether bar trees are right for a rule, a database and a licence.

    In its methods a state tells of the integers that go down to a node. If two of its variables are not
    said to be equal, they can be different, and a variable can be any of endlessly many integers.
    """

    def __init__(self, rule, database, licence):
        self._rule = rule
        self._database = database
        self._licence = licence
        self._escapes = {}

    def escapes(self, pattern, unlike):
        """Return what blanks can become so that the row of a pattern is there or may come: a list of dicts."""
        if pattern not in self._escapes:
            found = [bound(pattern, row) for row in self._database.near(pattern)]
            self._escapes[pattern] = [table for table in found if table is not None] + self._licence.comings(pattern)
        return [table for table in self._escapes[pattern] if not makes_equal(table, unlike)]

    def has_indices(self, reason):
        """Return whether the pair or the patterns that a leaf tells of exist."""
        _, wanted, barred, unlike = self._rule
        word = reason[0]
        if word == PAIR:
            return reason[1] < len(unlike)
        if word == STAYS:
            return reason[1] < len(barred)
        if word == BOTH:
            return reason[1] < len(wanted) and reason[2] < len(barred)
        return word == NONE or reason[1] < len(wanted)

    def holds(self, reason, state):
        """Return whether all integers of a state, of which there are some, are barred for a reason."""
        table, differing = state
        _, wanted, barred, unlike = self._rule
        word = reason[0]
        if word == PAIR:
            return has_equal((put_in_terms(unlike[reason[1]], table),))
        if word == STAYS:
            row = put_in(barred[reason[1]], table)
            return row in self._database and not self._licence.may_go(row)
        if word == BOTH:
            return put_in(wanted[reason[1]], table) == put_in(barred[reason[2]], table)
        if word == NEVER:
            return len(self.escapes(put_in(wanted[reason[1]], table), differing)) == 0
        return False

    def is_right(self, node, state):
        """Return whether all leaves below a node are right, if their indices exist."""
        while state is not None and node[0] == IS:
            _, variable, cases, other = node
            terms, names = [], []
            for term, tree in cases:
                below = case_state(state, variable, term, terms, names)
                if below is not None and not self.is_right(tree, below):
                    return False
                terms.append(term)
                if isinstance(term, str):
                    names.append(term)
            node, state = other, parted(state, variable, terms)
        return state is None or self.holds(node, state)


def is_bar_tree_of(rule, database, licence, answer, value):
    """Return what `is_bar_tree` returns, for arguments that are checked."""
    scanned = names_and_reasons(value)
    if scanned is None:
        return False
    variables = variables_in(rule)
    names, reasons = scanned
    check = BarCheck(rule, database, licence)
    if not all([name in variables for name in names]) or not all([check.has_indices(reason) for reason in reasons]):
        return False
    return check.is_right(value, start_of(rule, answer))


def is_bar_tree(question, database, licence, answer, index, value):
    """Return whether the value is a right bar tree of the rule with this index."""
    check_case(question, database, licence, answer)
    check_index(question, index)
    return is_bar_tree_of(question.rules[index], database, licence, answer, value)
