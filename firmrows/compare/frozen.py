"""Frozen rules: what a rule asks for, with integers for its variables."""

from firmrows.ask.molds import Mold
from firmrows.ask.questions import check_question
from firmrows.ask.rules import variables_in
from firmrows.base.rows import is_integers
from firmrows.errors import InvalidOperation, TooMany

MAX_WAYS = 2000


def new_numbers(numbers, many):
    """Return the tuple of so many smallest integers from 0 on that are not among the numbers."""
    taken = {number: True for number in numbers}
    found = []
    for number in range(len(taken) + many):
        if number not in taken and len(found) < many:
            found.append(number)
    return tuple(found)


def holds(clauses, line):
    """Return whether in each clause the integers of a line at the places of some pair are different."""
    for clause in clauses:
        for one, other in clause:
            if line[one] != line[other]:
                break
        else:
            return False
    return True


class Freezer:
    """Gives integers to names in an order: some of them, or new ones, of which the smallest comes first."""

    def __init__(self, mold, many, numbers, is_beside):
        fixed = len(mold.start())
        new = new_numbers(numbers, many)
        self._start = mold.start()
        self._end = fixed + many
        self._known = len(numbers)
        self._choices = numbers + new
        # The clauses that can be looked at when a place is filled; there is no way if one can't hold at all.
        self._clauses = [[] for _ in range(self._end + 1)]
        self._is_possible = True
        for clause in mold.clauses(is_beside):
            pairs = [pair for pair in clause if pair[0] != pair[1]]
            if len(pairs) == 0:
                self._is_possible = False
            elif len([pair for pair in pairs if max(pair[0], pair[1]) < fixed]) == 0:
                last = max([max(pair[0], pair[1]) for pair in pairs])
                self._clauses[last].append(pairs)

    def lines(self):
        """Yield the lines with all ways to give the integers."""
        if self._is_possible:
            yield from self.longer(self._start, 0)

    def longer(self, line, many):
        """Yield the lines with all ways to go on with a line, in which there are so many new integers."""
        place = len(line)
        if place == self._end:
            yield line
            return
        clauses = self._clauses[place]
        fresh = self._choices[self._known + many]
        for number in self._choices[:self._known + many + 1]:
            more = line + (number,)
            if holds(clauses, more):
                after = many + 1 if number == fresh else many
                yield from self.longer(more, after)


def freezer_of(rule, numbers):
    """Return the mold of a rule, and a freezer for its variables."""
    names = variables_in(rule)
    mold = Mold(rule, names, ())
    return (mold, Freezer(mold, len(names), numbers, False))


def most_ways(rules, numbers):
    """Return a number that is not less than that of the ways to give integers to the variables of some rules."""
    most = 0
    for rule in rules:
        ways = 1
        for k in range(len(variables_in(rule))):
            ways = ways * (len(numbers) + k + 1)
        most = most + ways
    return most


def check_ways(rules, numbers):
    """Raise TooMany if there are more than 2000 ways to freeze some rules."""
    if most_ways(rules, numbers) > MAX_WAYS:
        many = 0
        for rule in rules:
            _, freezer = freezer_of(rule, numbers)
            for _ in freezer.lines():
                many = many + 1
                if many > MAX_WAYS:
                    raise TooMany(MAX_WAYS)


def one_by_one(rules, numbers):
    """Yield the different frozen rules as they are found, each with a pair of the index of a rule and integers for it.

    TooMany is raised ahead of all of them.
    """
    check_ways(rules, numbers)
    found = {}
    for index, rule in enumerate(rules):
        mold, freezer = freezer_of(rule, numbers)
        fixed = len(mold.start())
        for line in freezer.lines():
            frozen = mold.frozen_of(line)
            if frozen not in found:
                found[frozen] = True
                yield (frozen, (index, line[fixed:]))


def freeze_with_leaves(rules, numbers):
    """Return a dict from the different frozen rules, ascending, to what `one_by_one` yields with them."""
    found = {frozen: leaf for frozen, leaf in one_by_one(rules, numbers)}
    return {frozen: found[frozen] for frozen in sorted(list(found))}


def freeze(rules, numbers):
    """Return the ascending tuple of the different frozen rules; TooMany for more than 2000 ways."""
    return tuple(list(freeze_with_leaves(rules, numbers)))


def freeze_for(rules, numbers, trees):
    """Return the ascending tuple of the different frozen rules, or None if there are more than trees.

    So papers that are too short are refused soon. What is not a tuple of trees is shorter than all.
    """
    most = len(trees) if isinstance(trees, tuple) else -1
    found = {}
    for rule in rules:
        mold, freezer = freezer_of(rule, numbers)
        for line in freezer.lines():
            found[mold.frozen_of(line)] = True
            if len(found) > most:
                return None
    return tuple(sorted(list(found)))


def joint(one, other):
    """Return the ascending tuple of the different ones of two tuples of integers."""
    return tuple(sorted(set(one + other)))


def frozen_rules(question, *, named=()):
    """Return the ascending tuple of the different frozen rules of a question."""
    check_question(question)
    if not is_integers(named):
        raise InvalidOperation("not a tuple of integers")
    return freeze(question.rules, joint(question.named, named))
