"""Early questions: no answer is ever lost when rows come."""

from firmrows.ask.questions import check_question
from firmrows.base.databases import Database
from firmrows.compare.frozen import freeze
from firmrows.compare.within import are_trees_for, has_answer, is_answer_in, trees_for
from firmrows.future.licences import Licence
from firmrows.papers.firm import firm_answers

EARLY = "early"
LATE = "late"


def paper_of(question):
    """Return what `early_paper` returns, for a question that is checked."""
    trees, lost, spoiler = trees_for(freeze(question.rules, question.named), question, True)
    if trees is not None:
        return (EARLY, trees)
    head, rows, _ = lost
    return (LATE, Database.of(rows), spoiler, head)


def early_paper(question):
    """Return a paper that shows that the question is early, or that it is late."""
    check_question(question)
    return paper_of(question)


def is_early(question):
    """Return whether the question is early."""
    check_question(question)
    return paper_of(question)[0] == EARLY


def is_early_paper(question, value):
    """Return whether the value is an early paper of the question."""
    check_question(question)
    if not isinstance(value, tuple) or len(value) == 0:
        return False
    if len(value) == 2 and value[0] == EARLY:
        return are_trees_for(question.rules, question.named, question, True, value[1])
    if len(value) != 4 or value[0] != LATE:
        return False
    _, small, great, answer = value
    if not is_answer_in(question, small, answer) or not small.is_within(great):
        return False
    return has_answer(question, small, answer) and not has_answer(question, great, answer)


def kept_answers(question, database):
    """Return the ascending tuple of the answers that stay, whatever rows come."""
    return firm_answers(question, database, Licence(come="any"))
