"""What the document says, tried out in the plainest way, without the package's own functions."""

from itertools import chain, combinations, product


def blanks(pattern):
    return sorted({term for term in pattern[1:] if isinstance(term, str)})


def put(pattern, numbers):
    return (pattern[0],) + tuple(numbers.get(term, term) for term in pattern[1:])


def rows_fitting(pattern, integers):
    """All rows over some integers that fit a pattern."""
    names = blanks(pattern)
    return {put(pattern, dict(zip(names, values))) for values in product(integers, repeat=len(names))}


def variables(rule):
    head, wanted, barred, unlike = rule
    terms = chain(head, *[pattern[1:] for pattern in wanted + barred], *unlike)
    return sorted({term for term in terms if isinstance(term, str)})


def value_of(term, numbers):
    return numbers.get(term, term)


def holds(rule, numbers, rows):
    """Whether integers for the variables make a match in a set of rows."""
    _, wanted, barred, unlike = rule
    return (all(put(pattern, numbers) in rows for pattern in wanted)
            and not any(put(pattern, numbers) in rows for pattern in barred)
            and all(value_of(one, numbers) != value_of(other, numbers) for one, other in unlike))


def matches(rules, rows):
    """All matches, tried with all integers of the rows for all variables."""
    rows = set(rows)
    integers = sorted({number for row in rows for number in row[1:]})
    found = []
    for index, rule in enumerate(rules):
        names = variables(rule)
        for values in product(integers, repeat=len(names)):
            numbers = dict(zip(names, values))
            if holds(rule, numbers, rows):
                found.append((index, numbers))
    return found


def answer(rule, numbers):
    return tuple(value_of(term, numbers) for term in rule[0])


def answers(rules, rows):
    return tuple(sorted({answer(rules[index], numbers) for index, numbers in matches(rules, rows)}))


def fits(pattern, row):
    """Whether a row fits a pattern, by trying its own integers for the blanks."""
    return row in rows_fitting(pattern, sorted(set(row[1:]))) or row == pattern


def may(row, let, stopped):
    lets = let == "any" or any(fits(pattern, row) for pattern in let)
    return lets and not any(fits(pattern, row) for pattern in stopped)


def can_change(rows, licence, row):
    if row in rows:
        return may(row, licence.go, licence.kept)
    return may(row, licence.come, licence.shut)


def subsets(rows):
    rows = sorted(rows)
    return chain.from_iterable(combinations(rows, many) for many in range(len(rows) + 1))


def is_leaf(tree):
    return tree[0] == "match"


def rows_in(tree):
    return set() if is_leaf(tree) else {tree[1]} | rows_in(tree[2]) | rows_in(tree[3])


def goes_to(tree, rows):
    """The leaf to which a set of rows goes down, and the rows that are asked on the way."""
    way = []
    while not is_leaf(tree):
        way.append(tree[1])
        tree = tree[2] if tree[1] in rows else tree[3]
    return tree, way


def is_right_leaf(leaf, way, rules, rows, future, licence, wanted_answer):
    _, index, integers = leaf
    if not 0 <= index < len(rules):
        return False
    rule = rules[index]
    names = variables(rule)
    if len(names) != len(integers):
        return False
    numbers = dict(zip(names, integers))
    if answer(rule, numbers) != wanted_answer:
        return False
    if any(value_of(one, numbers) == value_of(other, numbers) for one, other in rule[3]):
        return False
    used = [(put(pattern, numbers), True) for pattern in rule[1]]
    used += [(put(pattern, numbers), False) for pattern in rule[2]]
    for row, there in used:
        if not (row in way or not can_change(rows, licence, row)) or (row in future) is not there:
            return False
    return True


def is_right(tree, rules, rows, licence, wanted_answer):
    """Whether a case tree is right, by trying all futures in the rows that it asks."""
    rows = set(rows)
    able = [row for row in rows_in(tree) if can_change(rows, licence, row)]
    for some in subsets(able):
        future = rows ^ set(some)
        leaf, way = goes_to(tree, future)
        if not is_right_leaf(leaf, way, rules, rows, future, licence, wanted_answer):
            return False
    return True
