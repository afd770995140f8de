"""The errors that most functions of papers have in common."""

from firmrows.ask.questions import check_answer, check_question
from firmrows.base.databases import check_database
from firmrows.future.licences import check_licence


def check_case(question, database, licence, answer):
    """Raise the error for the first of the arguments that is not valid."""
    check_question(question)
    check_database(database)
    check_licence(licence)
    check_answer(question, answer)
