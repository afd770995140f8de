"""Answers that are out: bar trees for all rules, or a future that has the answer."""

from firmrows.ask.matches import first_match
from firmrows.ask.questions import check_question
from firmrows.ask.rules import put_in_rule, variables_in
from firmrows.base.databases import Database, check_database
from firmrows.base.patterns import put_in
from firmrows.errors import TooMany
from firmrows.future.futures import is_future
from firmrows.future.licences import check_licence
from firmrows.papers.bars import BOTH, IS, NEVER, NONE, PAIR, STAYS, BarCheck, is_bar_tree_of
from firmrows.papers.checks import check_case
from firmrows.papers.equal import start_of, states_below
from firmrows.papers.firm import is_firm

OUT = "out"
MADE = "made"
MAX_WAYS = 20000
# How much is looked at before TooMany, where it is permitted: a node counts, and so do the rows and ways out.
MAX_WORK = 1000000
WORK_OF_NODE = 100


def reasons_of(rule):
    """Return the list of the leaves that can stand in a bar tree of the rule, but for `never` and `none`."""
    _, wanted, barred, unlike = rule
    reasons = [(PAIR, k) for k in range(len(unlike))]
    reasons.extend([(BOTH, i, k) for i in range(len(wanted)) for k in range(len(barred))])
    return reasons + [(STAYS, k) for k in range(len(barred))]


def same_names(table, name):
    """Return the list of the other keys for which the dict has the same value."""
    return [other for other in table if other != name and table[other] == table[name]]


def terms_to_ask(ways):
    """Return a variable that some ways tell of, and the list of the terms that it is equal to in them.

    A way is a dict from variables to integers, or to strings that are equal for equal variables.
    """
    first = ways[0]
    bound = [name for name in first if isinstance(first[name], int) or len(same_names(first, name)) > 0]
    name = bound[0]
    terms = {}
    for way in ways:
        found = [way[name]] if isinstance(way[name], int) else same_names(way, name)
        terms.update({term: True for term in found})
    numbers = sorted([term for term in terms if isinstance(term, int)])
    return (name, numbers + sorted([term for term in terms if isinstance(term, str)]))


class OutSearch:
    """Looks for right bar trees for the rules of a question, or for a future with the answer.

    At each node it takes new integers, all different, for the variables of which nothing is known.
    If these are barred, but others of the node are not, that is because a row that could not come is there,
    or may come, with special integers. So it asks for these.
    """

    def __init__(self, question, database, licence, answer):
        self._database = database
        self._licence = licence
        self._answer = answer
        self._work = 0
        known = database.numbers + licence.numbers + question.named + answer
        self._known = {number: True for number in known}
        self._may_stop = False
        for rule in question.rules:
            ways = 1
            for _ in variables_in(rule):
                ways = ways * (len(self._known) + 4)
            self._may_stop = self._may_stop or ways > MAX_WAYS

    def fresh_numbers(self, names):
        """Return a dict that gives each of some names a new integer of its own."""
        table = {}
        number = 0
        for name in names:
            while number in self._known:
                number = number + 1
            table[name] = number
            number = number + 1
        return table

    def sample(self, rule, state):
        """Return the rule with integers put in that are as different as the state permits."""
        table = state[0]
        names = [name for name in table if table[name] == name]
        new = self.fresh_numbers(names)
        return put_in_rule(rule, {name: new.get(table[name], table[name]) for name in table})

    def blocked(self, sample):
        """Return the list of the indices of the wanted rows that are not there and may not come."""
        missing = [(i, row) for i, row in enumerate(sample[1]) if row not in self._database]
        return [i for i, row in missing if not self._licence.may_come(row)]

    def escapes(self, rule, check, state, blocked):
        """Return a dict from the indices of blocked rows to the ways in which others can be there or come."""
        table, unlike = state
        found = {}
        for i in blocked:
            found[i] = check.escapes(put_in(rule[1][i], table), unlike)
            self._work = self._work + len(self._database) + len(found[i])
        return found

    def search(self, rule, check, state, last):
        """Return a pair: a right bar tree or None, and otherwise a future with the answer.

        To go on with the last blocked row keeps the tree low: only few variables stand in it.
        """
        self._work = self._work + WORK_OF_NODE
        if self._may_stop and self._work > MAX_WORK:
            raise TooMany(MAX_WAYS)
        if state is None:
            return ((NONE,), None)
        for reason in reasons_of(rule):
            if check.holds(reason, state):
                return (reason, None)
        sample = self.sample(rule, state)
        blocked = self.blocked(sample)
        if len(blocked) == 0:
            rows = sample[1]
            return (None, self._database.with_rows(*rows) - Database.of(sample[2]))
        escapes = self.escapes(rule, check, state, blocked)
        least, first = min([(len(escapes[i]), i) for i in blocked])
        if least == 0:
            return ((NEVER, first), None)
        first = last if last in blocked else first
        return self.asked_about(rule, check, state, first, escapes[first])

    def asked_about(self, rule, check, state, first, ways):
        """Return what `search` returns, for a state with ways in which a blocked row can be there or come."""
        name, terms = terms_to_ask(ways)
        states = states_below(state, name, terms)
        cases = []
        for k in range(len(terms)):
            tree, maker = self.search(rule, check, states[k], None)
            if tree is None:
                return (None, maker)
            cases.append((terms[k], tree))
        other, maker = self.search(rule, check, states[len(terms)], first)
        return (None, maker) if other is None else ((IS, name, tuple(cases), other), None)

    def search_rule(self, rule):
        """Return what `search` returns for a whole rule."""
        check = BarCheck(rule, self._database, self._licence)
        return self.search(rule, check, start_of(rule, self._answer), None)


def paper_of(question, database, licence, answer):
    """Return what `out_paper` returns, for arguments that are checked."""
    search = OutSearch(question, database, licence, answer)
    trees = []
    for rule in question.rules:
        tree, maker = search.search_rule(rule)
        if tree is None:
            return (MADE, maker)
        trees.append(tree)
    return (OUT, tuple(trees))


def out_paper(question, database, licence, answer):
    """Return a paper that shows that the answer is out, or that it is not."""
    check_case(question, database, licence, answer)
    return paper_of(question, database, licence, answer)


def is_maker_of(question, database, licence, answer, value):
    """Return what `is_maker` returns, for arguments that are checked."""
    return is_future(database, licence, value) and first_match(question, value, answer) is not None


def is_maker(question, database, licence, answer, value):
    """Return whether the value is a future with the answer."""
    check_case(question, database, licence, answer)
    return is_maker_of(question, database, licence, answer, value)


def is_out_paper(question, database, licence, answer, value):
    """Return whether the value is an out paper."""
    check_case(question, database, licence, answer)
    if not isinstance(value, tuple) or len(value) != 2:
        return False
    word, shown = value
    if word == MADE:
        return is_maker_of(question, database, licence, answer, shown)
    if word != OUT or not isinstance(shown, tuple) or len(shown) != len(question):
        return False
    for rule, tree in zip(question.rules, shown):
        if not is_bar_tree_of(rule, database, licence, answer, tree):
            return False
    return True


def can_be(question, database, licence, answer):
    """Return whether some future has the answer."""
    check_case(question, database, licence, answer)
    if first_match(question, database, answer) is not None:
        return True
    return paper_of(question, database, licence, answer)[0] == MADE


def status(question, database, licence, answer):
    """Return "firm", "out" or "open"."""
    if not can_be(question, database, licence, answer):
        return OUT
    return "firm" if is_firm(question, database, licence, answer) else "open"


def statuses(question, database, licence):
    """Return a dict from the answers of the database to the words of `status`."""
    check_question(question)
    check_database(database)
    check_licence(licence)
    return {answer: status(question, database, licence, answer) for answer in question(database)}
