"""What the document says, tried out in the plainest way, without the package's own functions."""

from itertools import chain, combinations, permutations, product


def blanks(pattern):
    return sorted({term for term in pattern[1:] if isinstance(term, str)})


def put(pattern, numbers):
    return (pattern[0],) + tuple(numbers.get(term, term) for term in pattern[1:])


def rows_fitting(pattern, integers):
    """All rows over some integers that fit a pattern."""
    names = blanks(pattern)
    return {put(pattern, dict(zip(names, values))) for values in product(integers, repeat=len(names))}


def variables(rule):
    head, wanted, barred, unlike = rule
    terms = chain(head, *[pattern[1:] for pattern in wanted + barred], *unlike)
    return sorted({term for term in terms if isinstance(term, str)})


def value_of(term, numbers):
    return numbers.get(term, term)


def holds(rule, numbers, rows):
    """Whether integers for the variables make a match in a set of rows."""
    _, wanted, barred, unlike = rule
    return (all(put(pattern, numbers) in rows for pattern in wanted)
            and not any(put(pattern, numbers) in rows for pattern in barred)
            and all(value_of(one, numbers) != value_of(other, numbers) for one, other in unlike))


def matches(rules, rows):
    """All matches, tried with all integers of the rows for all variables."""
    rows = set(rows)
    integers = sorted({number for row in rows for number in row[1:]})
    found = []
    for index, rule in enumerate(rules):
        names = variables(rule)
        for values in product(integers, repeat=len(names)):
            numbers = dict(zip(names, values))
            if holds(rule, numbers, rows):
                found.append((index, numbers))
    return found


def answer(rule, numbers):
    return tuple(value_of(term, numbers) for term in rule[0])


def answers(rules, rows):
    return tuple(sorted({answer(rules[index], numbers) for index, numbers in matches(rules, rows)}))


def fits(pattern, row):
    """Whether a row fits a pattern, by trying its own integers for the blanks."""
    return row in rows_fitting(pattern, sorted(set(row[1:]))) or row == pattern


def may(row, let, stopped):
    lets = let == "any" or any(fits(pattern, row) for pattern in let)
    return lets and not any(fits(pattern, row) for pattern in stopped)


def can_change(rows, licence, row):
    if row in rows:
        return may(row, licence.go, licence.kept)
    return may(row, licence.come, licence.shut)


def subsets(rows):
    rows = sorted(rows)
    return chain.from_iterable(combinations(rows, many) for many in range(len(rows) + 1))


def is_leaf(tree):
    return tree[0] == "match"


def rows_in(tree):
    return set() if is_leaf(tree) else {tree[1]} | rows_in(tree[2]) | rows_in(tree[3])


def goes_to(tree, rows):
    """The leaf to which a set of rows goes down, and the rows that are asked on the way."""
    way = []
    while not is_leaf(tree):
        way.append(tree[1])
        tree = tree[2] if tree[1] in rows else tree[3]
    return tree, way


def is_right_leaf(leaf, way, rules, rows, future, licence, wanted_answer):
    _, index, integers = leaf
    if not 0 <= index < len(rules):
        return False
    rule = rules[index]
    names = variables(rule)
    if len(names) != len(integers):
        return False
    numbers = dict(zip(names, integers))
    if answer(rule, numbers) != wanted_answer:
        return False
    if any(value_of(one, numbers) == value_of(other, numbers) for one, other in rule[3]):
        return False
    used = [(put(pattern, numbers), True) for pattern in rule[1]]
    used += [(put(pattern, numbers), False) for pattern in rule[2]]
    for row, there in used:
        if not (row in way or not can_change(rows, licence, row)) or (row in future) is not there:
            return False
    return True


def is_right(tree, rules, rows, licence, wanted_answer):
    """Whether a case tree is right, by trying all futures in the rows that it asks."""
    rows = set(rows)
    able = [row for row in rows_in(tree) if can_change(rows, licence, row)]
    for some in subsets(able):
        future = rows ^ set(some)
        leaf, way = goes_to(tree, future)
        if not is_right_leaf(leaf, way, rules, rows, future, licence, wanted_answer):
            return False
    return True


# What follows tries all futures, or all databases, over a few integers.

def integers_of(rules, rows, *more):
    """All integers in some rules, rows and further tuples."""
    terms = chain(*[row[1:] for row in rows], *more)
    for head, wanted, barred, unlike in rules:
        terms = chain(terms, head, *[pattern[1:] for pattern in wanted + barred], *unlike)
    return sorted({term for term in terms if not isinstance(term, str)})


def terms_of_licence(licence):
    parts = [part for part in (licence.come, licence.go, licence.shut, licence.kept) if part != "any"]
    return tuple(term for part in parts for pattern in part for term in pattern[1:] if not isinstance(term, str))


def tables_of(rules):
    return sorted({(pattern[0], len(pattern) - 1) for rule in rules for pattern in rule[1] + rule[2]})


def all_rows(tables, integers):
    return [(name,) + values for name, many in tables for values in product(integers, repeat=many)]


def ways_to(rules, answer_wanted, integers):
    """(index, values, wanted rows, barred rows) for all integers with the answer and with different pairs."""
    found = []
    for index, rule in enumerate(rules):
        names = variables(rule)
        for values in product(integers, repeat=len(names)):
            numbers = dict(zip(names, values))
            if answer(rule, numbers) == answer_wanted and all(
                    value_of(one, numbers) != value_of(other, numbers) for one, other in rule[3]):
                found.append((index, values, frozenset(put(pattern, numbers) for pattern in rule[1]),
                              frozenset(put(pattern, numbers) for pattern in rule[2])))
    return found


def has_way(found, rows):
    return any(wanted <= rows and not barred & rows for _, _, wanted, barred in found)


def chances(rules, rows, licence, answer_wanted, integers):
    rows = set(rows)
    return [way for way in ways_to(rules, answer_wanted, integers)
            if not way[2] & way[3]
            and all(row in rows or can_change(rows, licence, row) for row in way[2])
            and all(row not in rows or can_change(rows, licence, row) for row in way[3])]


def open_rows(rules, rows, licence, answer_wanted):
    integers = integers_of(rules, rows, answer_wanted)
    used = set().union(*[way[2] | way[3] for way in chances(rules, rows, licence, answer_wanted, integers)], [])
    return tuple(sorted(row for row in used if can_change(set(rows), licence, row)))


def changing_rows(rules, rows, licence, answer_wanted):
    """All rows over the known integers that can change and whose tables the rules ask for."""
    integers = integers_of(rules, rows, answer_wanted)
    return [row for row in all_rows(tables_of(rules), integers) if can_change(set(rows), licence, row)]


def is_firm(rules, rows, licence, answer_wanted, able):
    """Whether the answer is there in all futures that differ only in these rows."""
    found = ways_to(rules, answer_wanted, integers_of(rules, rows, answer_wanted))
    return all(has_way(found, frozenset(rows) ^ frozenset(some)) for some in subsets(able))


def can_be(rules, rows, licence, answer_wanted):
    """Whether integers, known ones or four new ones, can be made a match."""
    known = integers_of(rules, rows, answer_wanted, terms_of_licence(licence))
    new = [number for number in range(900, 904) if number not in known]
    return bool(chances(rules, rows, licence, answer_wanted, known + new))


def bar_leaf(tree, numbers):
    while tree[0] == "is":
        tree = next((below for term, below in tree[2] if value_of(term, numbers) == numbers[tree[1]]), tree[3])
    return tree


def bar_leaves(tree):
    if tree[0] != "is":
        return [tree]
    return [leaf for _, below in tree[2] for leaf in bar_leaves(below)] + bar_leaves(tree[3])


def bar_terms(tree):
    if tree[0] != "is":
        return set()
    return {tree[1]} | {term for term, _ in tree[2]}.union(*[bar_terms(below) for _, below in tree[2]], bar_terms(tree[3]))


def bars(leaf, rule, numbers, rows, licence):
    """Whether integers with the answer are barred for the reason of a leaf."""
    _, wanted, barred, unlike = rule
    word = leaf[0]
    if word == "pair":
        return value_of(unlike[leaf[1]][0], numbers) == value_of(unlike[leaf[1]][1], numbers)
    if word == "stays":
        row = put(barred[leaf[1]], numbers)
        return row in rows and not can_change(rows, licence, row)
    if word == "both":
        return put(wanted[leaf[1]], numbers) == put(barred[leaf[2]], numbers)
    if word == "never":
        row = put(wanted[leaf[1]], numbers)
        return row not in rows and not can_change(rows, licence, row)
    return False


def has_indices(leaf, rule):
    ends = {"pair": (len(rule[3]),), "stays": (len(rule[2]),), "both": (len(rule[1]), len(rule[2])),
            "never": (len(rule[1]),), "none": ()}[leaf[0]]
    return all(index < end for index, end in zip(leaf[1:], ends))


def is_right_bars(tree, rule, rows, licence, answer_wanted):
    """Whether a bar tree is right, by trying all known integers and enough new ones."""
    rows = set(rows)
    names = variables(rule)
    if not all(has_indices(leaf, rule) for leaf in bar_leaves(tree)):
        return False
    terms = bar_terms(tree)
    if not {term for term in terms if isinstance(term, str)} <= set(names):
        return False
    inner = tuple(term for term in terms if not isinstance(term, str))
    known = integers_of([rule], rows, answer_wanted, terms_of_licence(licence), inner)
    new = list(range(900, 900 + len(names)))
    for values in product(known + new, repeat=len(names)):
        numbers = dict(zip(names, values))
        if answer(rule, numbers) == answer_wanted and not bars(bar_leaf(tree, numbers), rule, numbers, rows, licence):
            return False
    return True


def frozen_rules(rules, named):
    """The frozen rules, by trying all ways to give integers to the variables."""
    numbers = sorted({term for term in integers_of(rules, ()) + list(named)})
    new = [number for number in range(len(numbers) + 4) if number not in numbers][:4]
    found = set()
    for rule in rules:
        names = variables(rule)
        for values in product(numbers + new, repeat=len(names)):
            firsts = [value for at, value in enumerate(values) if value in new and value not in values[:at]]
            table = dict(zip(names, values))
            wanted = {put(pattern, table) for pattern in rule[1]}
            barred = {put(pattern, table) for pattern in rule[2]}
            if firsts == new[:len(firsts)] and not wanted & barred and all(
                    value_of(one, table) != value_of(other, table) for one, other in rule[3]):
                found.add((answer(rule, table), tuple(sorted(wanted)), tuple(sorted(barred))))
    return tuple(sorted(found))


def small_databases(tables, integers, most):
    """All sets of at most so many rows over some tables and integers."""
    rows = all_rows(tables, integers)
    return [frozenset(some) for many in range(most + 1) for some in combinations(rows, many)]


# Shapes, tried with all ways to take integers to integers.

def numbers_of(shape):
    head, rows = shape
    return sorted(set(head) | {number for row in rows for number in row[1:]})


def image(shape, table):
    head, rows = shape
    return (tuple(table[number] for number in head), tuple(sorted((row[0],) + tuple(table[part] for part in row[1:]) for row in rows)))


def findings(shape, rows, wanted_answer, fixed):
    rows = set(rows)
    names = numbers_of(shape)
    values = sorted({number for row in rows for number in row[1:]} | set(wanted_answer))
    found = []
    for chosen in permutations(values, len(names)):
        table = dict(zip(names, chosen))
        if all(table[name] == name if name in fixed else table[name] not in fixed for name in names):
            head, taken = image(shape, table)
            if head == wanted_answer and set(taken) <= rows:
                found.append(table)
    return found


def is_found_in(shape, other, fixed):
    return len(shape[0]) == len(other[0]) and bool(findings(shape, other[1], other[0], fixed))


def normal_form(shape, fixed):
    free = [number for number in numbers_of(shape) if number not in fixed]
    new = [number for number in range(len(free) + len(fixed)) if number not in fixed][:len(free)]
    return min(image(shape, {**{number: number for number in fixed}, **dict(zip(free, chosen))}) for chosen in permutations(new))


def found_answers(shapes, rows, fixed):
    values = sorted({number for row in rows for number in row[1:]} | set(fixed))
    return tuple(sorted({answer for shape in shapes for answer in product(values, repeat=len(shape[0]))
                         if findings(shape, rows, answer, fixed)}))


# Frozen pairs, tried with all ways to give integers to variables and blanks.

def frozen_pairs(rules, pattern, named):
    numbers = sorted(set(integers_of(rules, ())) | set(named) | {term for term in pattern[1:] if not isinstance(term, str)})
    new = [number for number in range(len(numbers) + 7) if number not in numbers][:7]
    found = set()
    for rule in rules:
        names, inner = variables(rule), blanks(pattern)
        few = new[:len(names) + len(inner)]
        for values in product(numbers + few, repeat=len(names) + len(inner)):
            firsts = [value for at, value in enumerate(values) if value in few and value not in values[:at]]
            table = dict(zip(names, values))
            wanted = {put(part, table) for part in rule[1]}
            barred = {put(part, table) for part in rule[2]}
            if firsts == few[:len(firsts)] and not wanted & barred and all(
                    value_of(one, table) != value_of(other, table) for one, other in rule[3]):
                row = put(pattern, dict(zip(inner, values[len(names):])))
                found.add((answer(rule, table), tuple(sorted(wanted)), tuple(sorted(barred)), row))
    return tuple(sorted(found))
