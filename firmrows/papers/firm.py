"""Firm answers: those that every future has."""

from firmrows.ask.matches import first_match
from firmrows.ask.questions import check_question
from firmrows.base.databases import check_database
from firmrows.future.futures import is_future
from firmrows.future.licences import check_licence
from firmrows.papers.cases import MAX_OPEN, case_search
from firmrows.papers.chances import open_rows_of
from firmrows.papers.checks import check_case
from firmrows.papers.trees import is_right_tree

FIRM = "firm"
SPOILED = "spoiled"


def open_rows(question, database, licence, answer):
    """Return the ascending tuple of the open rows."""
    check_case(question, database, licence, answer)
    return open_rows_of(question, database, licence, answer, MAX_OPEN)


def firm_paper(question, database, licence, answer):
    """Return a paper that shows that the answer is firm, or that it is not."""
    check_case(question, database, licence, answer)
    tree, spoiler = case_search(question, database, licence, answer)
    return (SPOILED, spoiler) if tree is None else (FIRM, tree)


def is_firm(question, database, licence, answer):
    """Return whether the answer is firm, for arguments that are checked."""
    return case_search(question, database, licence, answer)[0] is not None


def is_spoiler_of(question, database, licence, answer, value):
    """Return what `is_spoiler` returns, for arguments that are checked."""
    return is_future(database, licence, value) and first_match(question, value, answer) is None


def is_spoiler(question, database, licence, answer, value):
    """Return whether the value is a future without the answer."""
    check_case(question, database, licence, answer)
    return is_spoiler_of(question, database, licence, answer, value)


def is_firm_paper(question, database, licence, answer, value):
    """Return whether the value is a firm paper."""
    check_case(question, database, licence, answer)
    if not isinstance(value, tuple) or len(value) != 2:
        return False
    word, shown = value
    if word == SPOILED:
        return is_spoiler_of(question, database, licence, answer, shown)
    return word == FIRM and is_right_tree(question, database, licence, answer, shown)


def firm_answers(question, database, licence):
    """Return the ascending tuple of the firm answers."""
    check_question(question)
    check_database(database)
    check_licence(licence)
    return tuple([answer for answer in question(database) if is_firm(question, database, licence, answer)])
