"""Finds the integers with which a rule matches, one variable after another."""

from firmrows.ask.rules import names_among, variables_in
from firmrows.base.patterns import bound, put_in, put_in_terms


class Plan:
    """How the variables of a rule, taken in an order, get integers from the rows of a database.

    Each wanted pattern becomes a tree of nested dicts, whose keys are integers for its variables
    in the order. So only those integers are tried for a variable that some row has
    beside the integers that were chosen before, and a plan for sixty rows stays quick.
    """

    def __init__(self, rule, order, rows):
        _, wanted, barred, unlike = rule
        have = {row: True for row in rows}
        found = [found_by(pattern, rule, rows, have) for pattern in wanted]
        names = [[name for name in order if name in pattern[1:]] for pattern in wanted]
        self.order = order
        self.have = have
        self.possible = all([len(ways) > 0 for ways in found]) and not is_barred(barred, unlike, {}, have)
        self.roots = [tree_of(found[k], names[k]) for k in range(len(wanted))]
        self.users = [[k for k in range(len(wanted)) if name in names[k]] for name in order]
        self.limits = [limits_of(barred, unlike, name) for name in order]


def is_barred(barred, unlike, numbers, have):
    """Return whether a barred row is there or the terms of a pair are equal.

    Integers may be missing: a pattern with a blank in it is no row, and is not there.
    """
    for pattern in barred:
        if put_in(pattern, numbers) in have:
            return True
    for one, other in unlike:
        if numbers.get(one, one) == numbers.get(other, other):
            return True
    return False


def found_by(pattern, rule, rows, have):
    """Return the list of dicts that take a wanted pattern to a row and are not barred at once."""
    found = []
    for row in rows:
        numbers = bound(pattern, row)
        if numbers is not None and not is_barred(rule[2], rule[3], numbers, have):
            found.append(numbers)
    return found


def tree_of(found, names):
    """Return nested dicts with the integers of some dicts for these names, one level for each name."""
    tree = {}
    for numbers in found:
        node = tree
        for name in names:
            node = node.setdefault(numbers[name], {})
    return tree


def limits_of(barred, unlike, name):
    """Return the barred patterns and the pairs in which a variable stands."""
    patterns = [pattern for pattern in barred if name in pattern[1:]]
    pairs = [pair for pair in unlike if name in pair]
    return (patterns, pairs)


def shared_keys(trees):
    """Return the ascending list of the keys that all dicts of a list have."""
    keys = list(trees[0])
    for tree in trees[1:]:
        keys = [key for key in keys if key in tree]
    return sorted(keys)


def walk(plan, level, stop, nodes, numbers):
    """Yield what the variables of the levels up to a level can be: pairs of tree nodes and a dict."""
    if level == stop:
        yield (nodes, numbers)
        return
    name, users = plan.order[level], plan.users[level]
    barred, unlike = plan.limits[level]
    deeper = level + 1
    for number in shared_keys([nodes[k] for k in users]):
        more = {**numbers, name: number}
        if not is_barred(barred, unlike, more, plan.have):
            below = [nodes[k][number] if k in users else nodes[k] for k in range(len(nodes))]
            yield from walk(plan, deeper, stop, below, more)


def bindings(rule, database):
    """Yield the matches of a rule, by the tuples of their integers in the order of the variables."""
    order = variables_in(rule)
    plan = Plan(rule, order, database.rows)
    if plan.possible:
        for _, numbers in walk(plan, 0, len(order), plan.roots, {}):
            yield numbers


def can_end(plan, level, nodes, numbers):
    """Return whether integers for the variables from a level on make a match."""
    for _ in walk(plan, level, len(plan.order), nodes, numbers):
        return True
    return False


def answers_of(rule, database):
    """Return the list of the answers of a rule in a database.

    The variables of the head come first; for the others one way to a match is enough.
    """
    first = names_among(rule[0])
    rest = tuple([name for name in variables_in(rule) if name not in first])
    plan = Plan(rule, first + rest, database.rows)
    found = []
    if plan.possible:
        for nodes, numbers in walk(plan, 0, len(first), plan.roots, {}):
            if can_end(plan, len(first), nodes, numbers):
                found.append(put_in_terms(rule[0], numbers))
    return found
