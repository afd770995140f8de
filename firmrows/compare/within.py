"""Whether all answers of a question are answers of another one, in every database."""

from firmrows.ask.matches import first_match
from firmrows.ask.questions import check_question
from firmrows.base.databases import Database
from firmrows.base.rows import is_integers
from firmrows.compare.cases import Cases, are_trees_for
from firmrows.compare.frozen import freeze_for, freeze_with_leaves, joint, one_by_one
from firmrows.errors import InvalidOperation, TooMany

WITHIN = "within"
APART = "apart"
EQUAL = "equal"
AROUND = "around"


def check_both(question, other):
    """Raise the error if the values are not two questions of one width."""
    check_question(question)
    check_question(other)
    if question.width != other.width:
        raise InvalidOperation("the widths of the questions differ")


def has_answer(question, base, answer):
    """Return whether the question has the answer in the database."""
    return first_match(question, base, answer) is not None


def is_answer_in(question, base, answer):
    """Return whether the values are a database and a tuple of as many integers as the width."""
    return isinstance(base, Database) and is_integers(answer) and len(answer) == question.width


def leaves_in(question, other, leaves):
    """Return the list of what leaves of a question are in another one, which has the rule, too, or else None."""
    places = [other.rules.index(rule) if rule in other.rules else None for rule in question.rules]
    return [None if places[index] is None else (places[index], integers) for index, integers in leaves]


def paper_within(question, other):
    """Return what `within_paper` returns, for arguments that are checked."""
    frozen = freeze_with_leaves(question.rules, joint(question.named, other.named))
    trees, lost, spoiler = Cases(other).trees(list(frozen), leaves_in(question, other, list(frozen.values())))
    return (APART, spoiler, lost[0]) if trees is None else (WITHIN, trees)


def are_all_within(rules, numbers, search):
    """Return what `are_within` returns; TooMany is raised sooner, since the frozen rules are not in their order."""
    for case, _ in one_by_one(rules, numbers):
        if search.quick(case, None)[0] is None:
            return False
    return True


def are_within(rules, numbers, search):
    """Return whether all answers of some rules are answers of the question of a search, in every database.

    The numbers are at least all the integers that are named by the rules and the question.
    """
    try:
        return are_all_within(rules, numbers, search)
    except TooMany:
        frozen = freeze_with_leaves(rules, numbers)
        return search.trees(list(frozen), [None for _ in frozen])[0] is not None


def is_within(question, other):
    """Return whether the question is within the other one."""
    # A rule that both questions have is in no database the reason for a difference.
    rules = [rule for rule in question.rules if rule not in other.rules]
    return are_within(rules, joint(question.named, other.named), Cases(other))


def within_paper(question, other):
    """Return a paper that shows that the question is within the other one, or that it is not."""
    check_both(question, other)
    return paper_within(question, other)


def is_paper_within(question, other, value):
    """Return what `is_within_paper` returns, for arguments that are checked."""
    if not isinstance(value, tuple) or len(value) == 0:
        return False
    if len(value) == 2 and value[0] == WITHIN:
        frozen = freeze_for(question.rules, joint(question.named, other.named), value[1])
        return are_trees_for(other, frozen, value[1])
    if len(value) != 3 or value[0] != APART:
        return False
    _, base, answer = value
    if not is_answer_in(question, base, answer):
        return False
    return has_answer(question, base, answer) and not has_answer(other, base, answer)


def is_within_paper(question, other, value):
    """Return whether the value is a within paper of the two questions."""
    check_both(question, other)
    return is_paper_within(question, other, value)


def comparison(question, other):
    """Return "equal", "within", "around" or "apart"."""
    check_both(question, other)
    if is_within(question, other):
        return EQUAL if is_within(other, question) else WITHIN
    return AROUND if is_within(other, question) else APART
