"""Looks for findings: ways to take the integers of a shape that are not fixed to other ones.

A state is a pair. The first value is a dict from these integers to dicts, whose keys are what each one can
still become. The second one is the list of the parts, one for each row of the shape: the tuple of these integers
in the row, and the list of the tuples that they can still become. The state is None where nothing is left.
"""


def way_of(row, other, fixed):
    """Return the dict that takes the integers of a row that are not fixed to those of another row, or None.

    It takes different ones to different ones, and none to a fixed one.
    """
    found = {}
    for one, two in zip(row[1:], other[1:]):
        if one in fixed or two in fixed:
            if one != two:
                return None
        elif found.setdefault(one, two) != two:
            return None
    return found if len(set(list(found.values()))) == len(found) else None


def part_of(row, others, fixed):
    """Return the part for a row of a shape that goes to one of the others, which are of its table."""
    ways = [way_of(row, other, fixed) for other in others]
    names = tuple(list({number: True for number in row[1:] if number not in fixed}))
    return (names, [tuple([way[name] for name in names]) for way in ways if way is not None])


def has_ways(names, way, values):
    """Return whether each of the integers can become what a tuple has for it."""
    for k in range(len(names)):
        if way[k] not in values[names[k]]:
            return False
    return True


def kept_apart(values):
    """Return the dict of what the integers can become, when those that are settled are left out for the others.

    It is None if nothing is left for one of them.
    """
    taken = {}
    for name in values:
        if len(values[name]) == 1:
            for number in values[name]:
                if number in taken:
                    return None
                taken[number] = name
    apart = {}
    for name in values:
        apart[name] = {number: True for number in values[name] if taken.get(number, name) == name}
        if len(apart[name]) == 0:
            return None
    return apart


def many_values(values):
    """Return how many values there are for all integers together."""
    return sum([len(values[name]) for name in values])


def narrowed(state):
    """Return the state without what the rows, or different integers, do not permit."""
    values, parts = state
    before, now = -1, many_values(values)
    while before != now:
        before = now
        values = kept_apart(values)
        if values is None:
            return None
        left = []
        for names, ways in parts:
            able = [way for way in ways if has_ways(names, way, values)]
            if len(able) == 0:
                return None
            for k in range(len(names)):
                values[names[k]] = {way[k]: True for way in able}
            left.append((names, able))
        parts = left
        now = many_values(values)
    return (values, parts)


def settled(state, name, number):
    """Return the state in which an integer becomes another one."""
    values, parts = state
    return narrowed(({**values, name: {number: True}}, parts))


def finds_place(name, values, owners, tried):
    """Return whether an integer can get one of its values, if others may be given another one."""
    for number in values[name]:
        if number not in tried:
            tried[number] = True
            if number not in owners or finds_place(owners[number], values, owners, tried):
                owners[number] = name
                return True
    return False


def can_differ(values):
    """Return whether all integers can become different ones, whatever the rows are."""
    opened = [name for name in values if len(values[name]) > 1]
    if len(opened) == 0 or min([len(values[name]) for name in opened]) >= len(opened):
        return True
    owners = {}
    for name in opened:
        if not finds_place(name, values, owners, {}):
            return False
    return True


def can_stand_apart(opened):
    """Return whether rows without a common integer, each with two open ones, can go to rows without one.

    If they can, each of these integers can be given one beside which it stands there, and no two the same. That is
    quickly found out; so what many rows want of a few integers is not tried in all ways.
    """
    taken, beside = {}, {}
    for names, ways in opened:
        if len(names) == 2 and names[0] not in taken and names[1] not in taken:
            taken.update({name: True for name in names})
            for one, other in ways + tuple([(way[1], way[0]) for way in ways]):
                others = beside.setdefault(one, {})
                others[other] = True
    owners, found = {}, 0
    for number in beside:
        if found == len(taken):
            return True
        if finds_place(number, beside, owners, {}):
            found = found + 1
    return found == len(taken)


def remaining(state):
    """Return a pair that decides whether there is a finding: what is open in the rows, and integers beside them.

    The first value is a tuple of pairs: two or more open integers of a row, and what they can become together. The
    second one has pairs of an open integer that stands in no such row, and of what it can become.
    """
    values, parts = state
    opened = []
    for names, ways in parts:
        places = [k for k in range(len(names)) if len(values[names[k]]) > 1]
        if len(places) > 1:
            left = tuple([tuple([way[k] for k in places]) for way in ways])
            opened.append((tuple([names[k] for k in places]), left))
    inner = {name: True for names, _ in opened for name in names}
    beside = [name for name in values if len(values[name]) > 1 and name not in inner]
    return (tuple(opened), tuple([(name, tuple(sorted(list(values[name])))) for name in beside]))


def has_finding(state, failed):
    """Return whether there is a finding; a dict keeps for what there was none."""
    if state is None or not can_differ(state[0]):
        return False
    left = remaining(state)
    # Where each row has one open integer at most, it is enough that they can differ.
    if len(left[0]) == 0:
        return True
    if left in failed or len(left[0]) > 2 and not can_stand_apart(left[0]):
        return False
    values = state[0]
    _, name = min([(len(values[name]), name) for names, _ in left[0] for name in names])
    for number in values[name]:
        if has_finding(settled(state, name, number), failed):
            return True
    failed[left] = True
    return False


def groups_of(parts):
    """Return the list of the lists of those parts that have open integers in common, directly or through others."""
    groups = []
    for part in parts:
        joined = [part]
        apart = []
        for group in groups:
            if len([True for names, _ in group for name in names if name in part[0]]) > 0:
                joined = group + joined
            else:
                apart.append(group)
        groups = apart + [joined]
    return groups


def is_possible(state):
    """Return whether there is a finding."""
    if state is None:
        return False
    groups = groups_of(remaining(state)[0])
    if len(groups) > 1:
        # If one of the groups has none by itself, that is not to be found out for all ways of the others.
        for group in groups:
            inner = {name: state[0][name] for names, _ in group for name in names}
            if not has_finding((inner, group), {}):
                return False
    return has_finding(state, {})


def given_by(head, answer, fixed):
    """Return the dict that takes the integers of a head that are not fixed to those of the answer, or None."""
    return way_of(("",) + head, ("",) + answer, fixed)


def free_numbers(shape, fixed):
    """Return the ascending tuple of the integers of a shape that are not fixed, which are keys of a dict."""
    head, rows = shape
    numbers = list(head) + [number for row in rows for number in row[1:]]
    return tuple(sorted(set([number for number in numbers if number not in fixed])))


def state_of(shape, others, given, fixed):
    """Return the state for a shape whose rows go to some others, if a dict tells what some integers become."""
    tables = {}
    for row in others:
        tables.setdefault((row[0], len(row)), []).append(row)
    parts = []
    for row in shape[1]:
        part = part_of(row, tables.get((row[0], len(row)), []), fixed)
        if len(part[1]) == 0:
            return None
        parts.append(part)
    every = {number: True for row in others for number in row[1:] if number not in fixed}
    values = {}
    for name in free_numbers(shape, fixed):
        values[name] = {given[name]: True} if name in given else every
    return narrowed((values, parts))


def state_for(shape, others, answer, fixed):
    """Return the state for a shape whose rows go to some others, and the head to the answer."""
    given = given_by(shape[0], answer, fixed)
    return None if given is None else state_of(shape, others, given, fixed)


def is_found_among(shape, others, answer, fixed):
    """Return whether a shape is found among some rows, for an answer as long as its head."""
    return is_possible(state_for(shape, others, answer, fixed))


def endings(names, level, state):
    """Yield states with findings, in which all names from a level on are settled, in ascending order."""
    if level == len(names):
        yield state
        return
    name, deeper = names[level], level + 1
    values = state[0][name]
    for number in sorted(list(values)):
        less = state if len(values) == 1 else settled(state, name, number)
        if len(values) == 1 or is_possible(less):
            yield from endings(names, deeper, less)


def only_value(state, name):
    """Return what an integer that is settled becomes."""
    return list(state[0][name])[0]
