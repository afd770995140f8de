"""Shapes, and where they are found."""

from firmrows.base.databases import check_database
from firmrows.base.patterns import put_in, put_in_terms
from firmrows.base.rows import MAX_TERMS, is_exchange, is_integers, is_row
from firmrows.early.normal import normal_of
from firmrows.early.search import (
    endings, free_numbers, is_found_among, is_possible, only_value, settled, state_for, state_of,
)
from firmrows.errors import InvalidAnswer, InvalidOperation, InvalidShape, TooMany

MAX_ROWS = 12
MAX_FREE = 6


def is_ascending(values):
    """Return whether the values of a tuple ascend strictly."""
    for one, other in zip(values, values[1:]):
        if not one < other:
            return False
    return True


def is_shape(value):
    """Return whether the value is a shape."""
    if not isinstance(value, tuple) or len(value) != 2:
        return False
    head, rows = value
    if not is_integers(head) or len(head) > MAX_TERMS or not isinstance(rows, tuple) or len(rows) > MAX_ROWS:
        return False
    return all([is_row(row) for row in rows]) and is_ascending(rows)


def check_shape(shape):
    """Raise InvalidShape if the value is not a shape."""
    if not is_shape(shape):
        raise InvalidShape("not a shape")


def check_fixed(fixed):
    """Raise InvalidOperation if the value is not an ascending tuple of integers."""
    if not is_integers(fixed) or not is_ascending(fixed):
        raise InvalidOperation("the fixed integers are an ascending tuple")


def check_shapes(shapes):
    """Raise InvalidOperation if the value is not a tuple of shapes with heads of one length."""
    if not isinstance(shapes, tuple) or not all([is_shape(shape) for shape in shapes]):
        raise InvalidOperation("not a tuple of shapes")
    if len(set([len(shape[0]) for shape in shapes])) > 1:
        raise InvalidOperation("heads of different lengths")


def check_heads(shapes, fixed):
    """Raise InvalidOperation if an integer in a head is neither fixed nor in a row of its shape."""
    for head, rows in shapes:
        inner = {number: True for row in rows for number in row[1:]}
        if not all([number in fixed or number in inner for number in head]):
            raise InvalidOperation("an integer in a head is neither fixed nor in a row")


def check_few_free(shapes, fixed):
    """Raise TooMany if more than six integers of a shape are not fixed."""
    for shape in shapes:
        if len(free_numbers(shape, fixed)) > MAX_FREE:
            raise TooMany(MAX_FREE)


def table_of(fixed):
    """Return a dict whose keys are the fixed integers."""
    return {number: True for number in fixed}


def numbers_of(shape):
    """Return the ascending tuple of the integers of a shape."""
    return free_numbers(shape, {})


def check_search(shape, database, answer):
    """Raise the error for the first of the arguments that is not valid."""
    check_shape(shape)
    check_database(database)
    if not is_integers(answer) or len(answer) != len(shape[0]):
        raise InvalidAnswer("not a tuple of as many integers as the head")


def findings(shape, database, answer, *, fixed=()):
    """Yield all findings of a shape in a database for an answer, by the tuples of their values."""
    check_search(shape, database, answer)
    check_fixed(fixed)
    table = table_of(fixed)
    start = state_for(shape, database.rows, answer, table)
    if is_possible(start):
        names = free_numbers(shape, table)
        for state in endings(names, 0, start):
            yield {number: number if number in table else only_value(state, number) for number in numbers_of(shape)}


def is_finding(shape, database, answer, value, *, fixed=()):
    """Return whether the value is a finding of a shape in a database for an answer."""
    check_search(shape, database, answer)
    check_fixed(fixed)
    numbers = numbers_of(shape)
    if not is_exchange(value) or tuple(sorted(list(value))) != numbers:
        return False
    table = table_of(fixed)
    if not all([value[number] == number if number in table else value[number] not in table for number in numbers]):
        return False
    if len(set([value[number] for number in numbers])) < len(numbers) or put_in_terms(shape[0], value) != answer:
        return False
    return all([put_in(row, value) in database for row in shape[1]])


def has_fewer(rows, others):
    """Return whether some table has fewer rows among some rows than among others."""
    many = {}
    for row in rows:
        key = (row[0], len(row))
        many[key] = many.get(key, 0) + 1
    for row in others:
        key = (row[0], len(row))
        many[key] = many.get(key, 0) - 1
        if many[key] < 0:
            return True
    return False


def is_in_shape(shape, other, table):
    """Return whether a shape is found in another one, for arguments that are checked."""
    # Different rows go to different ones of their table.
    if len(shape[0]) != len(other[0]) or len(shape[1]) > len(other[1]) or has_fewer(other[1], shape[1]):
        return False
    return is_found_among(shape, other[1], other[0], table)


def is_found_in(shape, other, *, fixed=()):
    """Return whether a shape is found in another one."""
    check_shape(shape)
    check_shape(other)
    check_fixed(fixed)
    return is_in_shape(shape, other, table_of(fixed))


def are_alike(shape, other, *, fixed=()):
    """Return whether each of two shapes is found in the other one."""
    check_shape(shape)
    check_shape(other)
    check_fixed(fixed)
    # Different rows go to different ones. So with as many rows it goes back by the same way.
    return len(shape[1]) == len(other[1]) and is_in_shape(shape, other, table_of(fixed))


def symmetries(shape, *, fixed=()):
    """Return the number of findings of a shape in itself."""
    check_shape(shape)
    check_fixed(fixed)
    table = table_of(fixed)
    many = 1
    state = state_for(shape, shape[1], shape[0], table)
    # The findings are a group: as many go on from each value that an integer can still have.
    for name in free_numbers(shape, table):
        values = [number for number in list(state[0][name]) if is_possible(settled(state, name, number))]
        many = many * len(values)
        state = settled(state, name, name)
    return many


def normal_form(shape, *, fixed=()):
    """Return the least shape that is alike."""
    check_shape(shape)
    check_fixed(fixed)
    table = table_of(fixed)
    check_few_free((shape,), table)
    return normal_of(shape, table)


def answers_of_shape(shape, database, table):
    """Return the list of the answers for which a shape is found in a database."""
    head = shape[0]
    start = state_of(shape, database.rows, {}, table)
    if not is_possible(start):
        return []
    names = free_numbers((head, ()), table)
    found = []
    for state in endings(names, 0, start):
        found.append(put_in_terms(head, {name: only_value(state, name) for name in names}))
    return found


def found_answers(shapes, database, *, fixed=()):
    """Return the ascending tuple of the answers for which one of the shapes is found."""
    check_shapes(shapes)
    check_database(database)
    check_fixed(fixed)
    table = table_of(fixed)
    check_heads(shapes, table)
    return tuple(sorted(set([answer for shape in shapes for answer in answers_of_shape(shape, database, table)])))
