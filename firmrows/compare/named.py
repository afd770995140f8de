"""Integers that matter for the answers of a question."""

from firmrows.ask.questions import check_question
from firmrows.base.rows import is_integer
from firmrows.compare.frozen import new_numbers
from firmrows.compare.within import APART, WITHIN, has_answer, is_answer_in, is_paper_within, is_within, paper_within
from firmrows.errors import InvalidNumber

IDLE = "idle"
MATTERS = "matters"


def check_number(number):
    """Raise InvalidNumber if the value is not an integer."""
    if not is_integer(number):
        raise InvalidNumber(number)


def fresh_of(question):
    """Return what `fresh` returns, for a question that is checked."""
    return new_numbers(question.named, 1)[0]


def fresh(question):
    """Return the smallest integer from 0 on that is not named."""
    check_question(question)
    return fresh_of(question)


def copy_for(question, number):
    """Return what `copy_of` returns, for arguments that are checked."""
    return question.moved({number: fresh_of(question)})


def copy_of(question, number):
    """Return the question with the fresh integer in the place of an integer."""
    check_question(question)
    check_number(number)
    return copy_for(question, number)


def is_idle(question, number):
    """Return whether an integer does not matter."""
    # To exchange the integer and the fresh one makes each of the two questions the other one.
    # So if one of them is within the other one, that one is within it, too.
    return is_within(question, copy_for(question, number))


def mattering(question):
    """Return the ascending tuple of the integers that matter."""
    check_question(question)
    return tuple([number for number in question.named if not is_idle(question, number)])


def matter_paper(question, number):
    """Return a paper that shows that an integer matters, or that it does not."""
    check_question(question)
    check_number(number)
    copy = copy_for(question, number)
    paper = paper_within(question, copy)
    if paper[0] == APART:
        return (MATTERS, paper[1], paper[2])
    # As in `is_idle`, this one cannot be apart.
    return (IDLE, paper[1], paper_within(copy, question)[1])


def is_matter_paper(question, number, value):
    """Return whether the value is a matter paper of the integer."""
    check_question(question)
    check_number(number)
    if not isinstance(value, tuple) or len(value) != 3:
        return False
    copy = copy_for(question, number)
    word, one, other = value
    if word == MATTERS and is_answer_in(question, one, other):
        return has_answer(question, one, other) != has_answer(copy, one, other)
    if word != IDLE:
        return False
    return is_paper_within(question, copy, (WITHIN, one)) and is_paper_within(copy, question, (WITHIN, other))
