"""Normal forms of shapes.

The rows of a normal form are found one after another, the least one first. A labelling is a dict from integers to
what replaces them; it has the fixed ones from the beginning.
"""

from firmrows.base.patterns import put_in, put_in_terms
from firmrows.compare.frozen import new_numbers
from firmrows.early.search import free_numbers


def labelled(terms, labels, fresh, many):
    """Return the labelling with the next fresh integers for those of the terms that it does not have.

    So the terms become the least ones that they can. Of the labels so many are fixed ones.
    """
    more = {**labels}
    for term in terms:
        if term not in more:
            more[term] = fresh[len(more) - many]
    return more


def is_swap(rows, one, other):
    """Return whether the rows stay the same if two of their integers are exchanged."""
    table = {one: other, other: one}
    return len([row for row in rows if put_in(row, table) not in rows]) == 0


def twins_of(rows, free):
    """Return a dict that takes each integer to the first one with which it can be exchanged.

    That is asked for integers without label; so it does not matter what stands in the head.
    """
    twins = {}
    for number in free:
        alike = [other for other in twins if twins[other] == other and is_swap(rows, number, other)]
        twins[number] = alike[0] if len(alike) > 0 else number
    return twins


def trace_of(row, labels, twins):
    """Return a value that is equal for rows that are made equal by exchanges of integers without label."""
    trace = [row[0]]
    for term in row[1:]:
        trace.append((0, labels[term]) if term in labels else (1, twins[term], row[1:].index(term)))
    return tuple(trace)


def next_states(states, twins, fresh, many):
    """Return the least next row, and the list of the states in which it is there.

    A state is a pair of a labelling and the list of the rows that are left.
    """
    best, found = None, []
    for labels, left in states:
        traces = {}
        for row in left:
            more = labelled(row[1:], labels, fresh, many)
            made = put_in(row, more)
            if best is None or made < best:
                best, found, traces = made, [], {}
            trace = trace_of(row, labels, twins)
            if made == best and trace not in traces:
                traces[trace] = True
                found.append((more, [other for other in left if other != row]))
    return (best, found)


def normal_of(shape, fixed):
    """Return the normal form of a shape; the fixed integers are the keys of a dict."""
    head, rows = shape
    free = free_numbers(shape, fixed)
    fresh = new_numbers(tuple(list(fixed)), len(free))
    twins = twins_of(rows, free)
    start = labelled(head, {number: number for number in fixed}, fresh, len(fixed))
    states = [(start, list(rows))]
    made = []
    for _ in rows:
        row, states = next_states(states, twins, fresh, len(fixed))
        made.append(row)
    return (put_in_terms(head, start), tuple(made))
