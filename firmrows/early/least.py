"""Least sets of shapes: they find exactly the answers of early questions."""

from firmrows.ask.questions import (
    MAX_RULES, MAX_UNLIKE, MAX_VARIABLES, MAX_WANTED, Question, check_question, check_width,
)
from firmrows.base.patterns import put_in, put_in_terms
from firmrows.compare.cases import Cases
from firmrows.compare.frozen import freeze_with_leaves, new_numbers
from firmrows.early.early import LATE, paper_for
from firmrows.early.normal import normal_of
from firmrows.early.search import free_numbers, given_by
from firmrows.early.shapes import (
    MAX_FREE, MAX_ROWS, check_few_free, check_fixed, check_heads, check_shapes, is_in_shape, numbers_of, table_of,
)
from firmrows.errors import InvalidOperation, NotEarly, TooMany

LETTERS = "abcd"


def moved(shape, table):
    """Return the shape with those of its integers replaced that are keys of a dict."""
    head, rows = shape
    return (put_in_terms(head, table), tuple(sorted(set([put_in(row, table) for row in rows]))))


def is_least(search, shape):
    """Return whether an early question has the head of a shape as an answer in its rows only if all are there."""
    head, rows = shape
    for k in range(len(rows)):
        if search.has(head, rows[:k] + rows[k + 1:]):
            return False
    return True


def matters(question, search, shapes, number):
    """Return whether a named integer matters for an early question, whose shapes over the named ones are told."""
    # The frozen rules have at most the first new integers, one for each variable.
    spare = new_numbers(question.named, MAX_VARIABLES + 1)[MAX_VARIABLES]
    named = table_of(question.named)
    for shape in shapes:
        tables = [{number: spare}] if number in numbers_of(shape) else []
        tables.extend([{number: spare, other: number} for other in free_numbers(shape, named)])
        for table in tables:
            head, rows = moved(shape, table)
            if not search.has(head, rows):
                return True
    return False


def least_of(question, frozen):
    """Return the least set of an early question with these frozen rules."""
    search = Cases(question)
    different = {(head, rows): True for head, rows, _ in frozen}
    shapes = [shape for shape in different if is_least(search, shape)]
    fixed = tuple([number for number in question.named if matters(question, search, shapes, number)])
    table = table_of(fixed)
    idle = {number: True for number in question.named if number not in table}
    # What an idle integer does, a new one does, too.
    common = [shape for shape in shapes if all([number not in idle for number in numbers_of(shape)])]
    return (fixed, tuple(sorted(set([normal_of(shape, table) for shape in common]))))


def least_set(question):
    """Return the least set of an early question: the fixed integers, and the shapes."""
    check_question(question)
    frozen = freeze_with_leaves(question.rules, question.named)
    paper = paper_for(frozen, question)
    if paper[0] == LATE:
        raise NotEarly(paper)
    return least_of(question, frozen)


def has_found(shape, shapes, table):
    """Return whether one of some shapes is found in a shape."""
    for other in shapes:
        if is_in_shape(other, shape, table):
            return True
    return False


def reduced_to(shapes, table):
    """Return the ascending tuple of those normal forms of some shapes in which no other one is found."""
    forms = sorted(set([normal_of(shape, table) for shape in shapes]))
    least = []
    # What is found in a normal form, and is another one, has fewer rows. If it is not a least one itself,
    # a least one is found in both.
    for many in range(MAX_ROWS + 1):
        fewer = list(least)
        least.extend([form for form in forms if len(form[1]) == many and not has_found(form, fewer, table)])
    return tuple(sorted(least))


def check_sets(shapes, others, fixed):
    """Raise InvalidOperation if the values are not two tuples of shapes, or do not go together."""
    check_shapes(shapes)
    check_shapes(others)
    check_fixed(fixed)
    check_shapes(shapes + others)
    check_heads(shapes + others, table_of(fixed))


def reduced(shapes, *, fixed=()):
    """Return the least tuple of normal forms with the same found answers."""
    check_shapes(shapes)
    check_fixed(fixed)
    table = table_of(fixed)
    check_heads(shapes, table)
    check_few_free(shapes, table)
    return reduced_to(shapes, table)


def set_or(shapes, others, *, fixed=()):
    """Return the least tuple of normal forms whose found answers are those of one of two tuples, or of both."""
    check_sets(shapes, others, fixed)
    table = table_of(fixed)
    check_few_free(shapes + others, table)
    return reduced_to(shapes + others, table)


def joined(shape, other, table):
    """Return the list of the shapes that are found where both shapes are found, for one answer.

    Each integer of the other one that is not fixed becomes one of the first one, or is different from them.
    """
    given = given_by(other[0], shape[0], table)
    if given is None:
        return []
    left = [number for number in free_numbers(other, table) if number not in given]
    spare = new_numbers(tuple(list(table)) + numbers_of(shape) + numbers_of(other), len(left))
    inner = free_numbers(shape, table)
    ways = [given]
    for name, new in zip(left, spare):
        same = [{**way, name: number} for way in ways for number in inner if number not in list(way.values())]
        ways = [{**way, name: new} for way in ways] + same
    return [(shape[0], tuple(sorted(set(shape[1] + moved(other, way)[1])))) for way in ways]


def check_pairs(shapes, others, table):
    """Raise TooMany if two shapes have too many rows in sum, or too many integers that are not fixed."""
    pairs = [(shape, other) for shape in shapes for other in others]
    if len([True for one, two in pairs if len(one[1]) + len(two[1]) > MAX_ROWS]) > 0:
        raise TooMany(MAX_ROWS)
    check_few_free(shapes + others, table)
    for shape, other in pairs:
        if len(free_numbers(shape, table)) + len(free_numbers(other, table)) > MAX_FREE:
            raise TooMany(MAX_FREE)


def set_and(shapes, others, *, fixed=()):
    """Return the least tuple of normal forms whose found answers are those of both tuples."""
    check_sets(shapes, others, fixed)
    table = table_of(fixed)
    check_pairs(shapes, others, table)
    ones, twos = reduced_to(shapes, table), reduced_to(others, table)
    return reduced_to([form for one in ones for two in twos for form in joined(one, two, table)], table)


def is_set_within(shapes, others, *, fixed=()):
    """Return whether all found answers of the first tuple are those of the second one, in every database."""
    check_sets(shapes, others, fixed)
    table = table_of(fixed)
    for shape in shapes:
        if not has_found(shape, others, table):
            return False
    return True


def rule_of(shape, fixed):
    """Return the rule with the found answers of a shape; TooMany(4) if it would have too many parts."""
    free = free_numbers(shape, table_of(fixed))
    many = len(free)
    unlike = [(i, k) for i in range(many) for k in range(i + 1, many + len(fixed))]
    if many > MAX_VARIABLES or len(shape[1]) > MAX_WANTED or len(unlike) > MAX_UNLIKE:
        raise TooMany(MAX_VARIABLES)
    names = {number: LETTERS[k] for k, number in enumerate(free)}
    terms = [names[number] for number in free] + list(fixed)
    head, rows = shape
    wanted = tuple([put_in(row, names) for row in rows])
    return (put_in_terms(head, names), wanted, (), tuple([(terms[i], terms[k]) for i, k in unlike]))


def question_of(shapes, *, fixed=(), width=None):
    """Return a question whose answers are the found answers of some shapes, in every database."""
    check_shapes(shapes)
    check_fixed(fixed)
    check_width(width)
    check_heads(shapes, table_of(fixed))
    if width is not None and len(shapes) > 0 and width != len(shapes[0][0]):
        raise InvalidOperation("the width is not that of the heads")
    rules = [rule_of(shape, fixed) for shape in shapes]
    if len(rules) > MAX_RULES:
        raise TooMany(MAX_RULES)
    return Question(*rules, width=width)
