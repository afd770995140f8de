"""Looks for findings: ways to take the integers of a shape that are not fixed to other ones.

A state is a pair. The first value is a dict from these integers to dicts, whose keys are what each one can
still become. The second one is the list of the parts, one for each row of the shape: the tuple of these integers
in the row, and the list of the tuples that they can still become. The state is None where nothing is left.
"""


def way_of(row, other, fixed):
    """Return the dict that takes the integers of a row that are not fixed to those of another row, or None.

    It takes different ones to different ones, and none to a fixed one.
    """
    found = {}
    for one, two in zip(row[1:], other[1:]):
        if one in fixed or two in fixed:
            if one != two:
                return None
        elif found.setdefault(one, two) != two:
            return None
    return found if len(set(list(found.values()))) == len(found) else None


def part_of(row, others, fixed):
    """Return the part for a row of a shape that goes to one of the others, which are of its table."""
    ways = [way_of(row, other, fixed) for other in others]
    names = tuple(list({number: True for number in row[1:] if number not in fixed}))
    return (names, [tuple([way[name] for name in names]) for way in ways if way is not None])


def has_ways(names, way, values):
    """Return whether each of the integers can become what a tuple has for it."""
    for k in range(len(names)):
        if way[k] not in values[names[k]]:
            return False
    return True


def kept_apart(values):
    """Return the dict of what the integers can become, when those that are settled are left out for the others.

    It is None if nothing is left for one of them.
    """
    taken = {}
    for name in values:
        if len(values[name]) == 1:
            for number in values[name]:
                if number in taken:
                    return None
                taken[number] = name
    apart = {}
    for name in values:
        apart[name] = {number: True for number in values[name] if taken.get(number, name) == name}
        if len(apart[name]) == 0:
            return None
    return apart


def many_values(values):
    """Return how many values there are for all integers together."""
    return sum([len(values[name]) for name in values])


def narrowed(state):
    """Return the state without what the rows, or different integers, do not permit."""
    values, parts = state
    before, now = -1, many_values(values)
    while before != now:
        before = now
        values = kept_apart(values)
        if values is None:
            return None
        left = []
        for names, ways in parts:
            able = [way for way in ways if has_ways(names, way, values)]
            if len(able) == 0:
                return None
            for k in range(len(names)):
                values[names[k]] = {way[k]: True for way in able}
            left.append((names, able))
        parts = left
        now = many_values(values)
    return (values, parts)


def settled(state, name, number):
    """Return the state in which an integer becomes another one."""
    values, parts = state
    return narrowed(({**values, name: {number: True}}, parts))


def finds_place(name, values, owners, tried):
    """Return whether an integer can get one of its values, if others may be given another one."""
    for number in values[name]:
        if number not in tried:
            tried[number] = True
            if number not in owners or finds_place(owners[number], values, owners, tried):
                owners[number] = name
                return True
    return False


def can_differ(values):
    """Return whether all integers can become different ones, whatever the rows are."""
    opened = [name for name in values if len(values[name]) > 1]
    if len(opened) == 0 or min([len(values[name]) for name in opened]) >= len(opened):
        return True
    owners = {}
    for name in opened:
        if not finds_place(name, values, owners, {}):
            return False
    return True


def is_possible(state):
    """Return whether there is a finding."""
    if state is None or not can_differ(state[0]):
        return False
    values, parts = state
    many = {}
    for names, _ in parts:
        opened = [name for name in names if len(values[name]) > 1]
        if len(opened) > 1:
            many.update({name: len(values[name]) for name in opened})
    # Where each row has one open integer at most, it is enough that they can differ.
    if len(many) == 0:
        return True
    _, name = min([(many[name], name) for name in many])
    for number in values[name]:
        if is_possible(settled(state, name, number)):
            return True
    return False


def given_by(head, answer, fixed):
    """Return the dict that takes the integers of a head that are not fixed to those of the answer, or None."""
    return way_of(("",) + head, ("",) + answer, fixed)


def free_numbers(shape, fixed):
    """Return the ascending tuple of the integers of a shape that are not fixed, which are keys of a dict."""
    head, rows = shape
    numbers = list(head) + [number for row in rows for number in row[1:]]
    return tuple(sorted(set([number for number in numbers if number not in fixed])))


def state_of(shape, others, given, fixed):
    """Return the state for a shape whose rows go to some others, if a dict tells what some integers become."""
    tables = {}
    for row in others:
        tables.setdefault((row[0], len(row)), []).append(row)
    parts = [part_of(row, tables.get((row[0], len(row)), []), fixed) for row in shape[1]]
    every = {number: True for row in others for number in row[1:] if number not in fixed}
    values = {}
    for name in free_numbers(shape, fixed):
        values[name] = {given[name]: True} if name in given else every
    return narrowed((values, parts))


def state_for(shape, others, answer, fixed):
    """Return the state for a shape whose rows go to some others, and the head to the answer."""
    given = given_by(shape[0], answer, fixed)
    return None if given is None else state_of(shape, others, given, fixed)


def is_found_among(shape, others, answer, fixed):
    """Return whether a shape is found among some rows, for an answer as long as its head."""
    return is_possible(state_for(shape, others, answer, fixed))


def endings(names, level, state):
    """Yield states with findings, in which all names from a level on are settled, in ascending order."""
    if level == len(names):
        yield state
        return
    name, deeper = names[level], level + 1
    values = state[0][name]
    for number in sorted(list(values)):
        less = state if len(values) == 1 else settled(state, name, number)
        if len(values) == 1 or is_possible(less):
            yield from endings(names, deeper, less)


def only_value(state, name):
    """Return what an integer that is settled becomes."""
    return list(state[0][name])[0]
