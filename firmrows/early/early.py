"""Early questions: no answer is ever lost when rows come."""

from firmrows.ask.questions import check_question
from firmrows.base.databases import Database
from firmrows.compare.cases import Cases, are_trees_for
from firmrows.compare.frozen import freeze_for, freeze_with_leaves, one_by_one
from firmrows.compare.within import has_answer, is_answer_in
from firmrows.errors import TooMany
from firmrows.future.licences import Licence
from firmrows.papers.firm import firm_answers

EARLY = "early"
LATE = "late"


def cases_of(frozen):
    """Return the list of the cases of frozen rules, if all rows may come."""
    return [(head, rows, ()) for head, rows, _ in frozen]


def paper_for(frozen, question):
    """Return what `early_paper` returns, for a question with a dict from its frozen rules to leaves."""
    trees, lost, spoiler = Cases(question).trees(cases_of(frozen), list(frozen.values()))
    if trees is not None:
        return (EARLY, trees)
    head, rows, _ = lost
    return (LATE, Database.of(rows), spoiler, head)


def paper_of(question):
    """Return what `early_paper` returns, for a question that is checked."""
    return paper_for(freeze_with_leaves(question.rules, question.named), question)


def early_paper(question):
    """Return a paper that shows that the question is early, or that it is late."""
    check_question(question)
    return paper_of(question)


def keeps_all(question):
    """Return what `is_early` returns; TooMany is raised sooner, since the frozen rules are not in their order."""
    search = Cases(question)
    for frozen, leaf in one_by_one(question.rules, question.named):
        if search.quick((frozen[0], frozen[1], ()), leaf)[0] is None:
            return False
    return True


def is_early(question):
    """Return whether the question is early."""
    check_question(question)
    try:
        return keeps_all(question)
    except TooMany:
        return paper_of(question)[0] == EARLY


def is_early_paper(question, value):
    """Return whether the value is an early paper of the question."""
    check_question(question)
    if not isinstance(value, tuple) or len(value) == 0:
        return False
    if len(value) == 2 and value[0] == EARLY:
        frozen = freeze_for(question.rules, question.named, value[1])
        return frozen is not None and are_trees_for(question, cases_of(frozen), value[1])
    if len(value) != 4 or value[0] != LATE:
        return False
    _, small, great, answer = value
    if not is_answer_in(question, small, answer) or not small.is_within(great):
        return False
    return has_answer(question, small, answer) and not has_answer(question, great, answer)


def kept_answers(question, database):
    """Return the ascending tuple of the answers that stay, whatever rows come."""
    return firm_answers(question, database, Licence(come="any"))
