"""The errors of the package."""


class RowError(ValueError):
    """What the errors with a message are derived from."""


class InvalidRow(RowError):
    """A value is no row."""


class InvalidPattern(RowError):
    """A value is no pattern."""


class InvalidDatabase(RowError):
    """A value is no database, or not one that is permitted."""


class InvalidQuestion(RowError):
    """A value is no question or no rule, or rules do not go together."""


class InvalidLicence(RowError):
    """A value is no licence, or no part of one."""


class InvalidAnswer(RowError):
    """A value is no answer of the width of the question."""


class InvalidShape(RowError):
    """A value is no shape."""


class InvalidOperation(RowError):
    """A value does not fit what is to be done with it."""


class InvalidEdit(RowError):
    """A value is no edit or no change."""


class ParseError(RowError):
    """A text is not one that formatting returns."""


class InvalidCommand(RowError):
    """A line is no command."""


class InvalidNumber(IndexError):
    """A value is no number or no index that is permitted; `value` keeps it."""

    def __init__(self, value):
        self.value = value


class UnknownName(KeyError):
    """Nothing has this name; `name` keeps it."""

    def __init__(self, name):
        self.name = name


class TooMany(OverflowError):
    """Something has more parts than are permitted; `limit` keeps how many are."""

    def __init__(self, limit):
        self.limit = limit


class NotLet(RuntimeError):
    """A row cannot change; `row` keeps it."""

    def __init__(self, row):
        self.row = row


class NotEarly(ArithmeticError):
    """A question is late; `paper` keeps the paper that shows it."""

    def __init__(self, paper):
        self.paper = paper


class NothingToUndo(LookupError):
    """There is less to take back or to do again than was asked for; `many` keeps how much was."""

    def __init__(self, many):
        self.many = many
