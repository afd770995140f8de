"""A shell: commands in lines of text."""

from firmrows.base.rows import is_name, is_row
from firmrows.compare.within import comparison
from firmrows.early.early import is_early
from firmrows.errors import InvalidCommand, ParseError
from firmrows.future.licences import Licence
from firmrows.live.stores import Store
from firmrows.papers.out import status
from firmrows.text.formats import (
    format_database, head_text, parse_database, parse_question, parse_row, parse_rule,
)


def read_name(text):
    """Return the name that a text is."""
    if not is_name(text):
        raise ParseError("not a name")
    return text


def read_database(text):
    """Return the database that a text tells."""
    return parse_database(text)


def read_question(text):
    """Return the question that a text tells."""
    return parse_question(text)


def read_pattern(text):
    """Return the row or pattern that a text tells."""
    return parse_row(text)


def read_row(text):
    """Return the row that a text tells."""
    row = parse_row(text)
    if not is_row(row):
        raise ParseError("not a row")
    return row


def read_answer(text):
    """Return the answer that a text tells, which is like a rule without parts."""
    rule = parse_rule(text)
    if rule[1:] != ((), (), ()):
        raise ParseError("not an answer")
    return rule[0]


def do_base(store, values):
    """Add a base whose rows may come and go."""
    licence = Licence(come="any", go="any")
    return ok(store.apply(("base", values[0], values[1], licence)))


def do_ask(store, values):
    """Add a question."""
    return ok(store.apply(("ask", values[0], values[1])))


def do_drop(store, values):
    """Leave out a base."""
    return ok(store.apply(("drop", values[0])))


def do_forget(store, values):
    """Leave out a question."""
    return ok(store.apply(("forget", values[0])))


def do_put(store, values):
    """Put a row in."""
    return ok(store.apply(("put", values[0], values[1])))


def do_take(store, values):
    """Take a row out."""
    return ok(store.apply(("take", values[0], values[1])))


def do_shut(store, values):
    """Let rows not come any more."""
    return ok(store.apply(("seal", values[0], (values[1],), True, False)))


def do_keep(store, values):
    """Let rows not go any more."""
    return ok(store.apply(("seal", values[0], (values[1],), False, True)))


def do_undo(store, values):
    """Take back the last group."""
    return ok(store.undo())


def do_redo(store, values):
    """Do the group again that was taken back last."""
    return ok(store.redo())


def do_answers(store, values):
    """Tell the answers."""
    return told(store.answers_at(values[0], values[1]))


def do_firm(store, values):
    """Tell the firm answers."""
    return told(store.firm_at(values[0], values[1]))


def do_status(store, values):
    """Tell the word for an answer."""
    database, licence = store.database_at(values[0]), store.licence_at(values[0])
    return status(store.question_at(values[1]), database, licence, values[2])


def do_rows(store, values):
    """Tell the database of a base."""
    return format_database(store.database_at(values[0]))


def do_early(store, values):
    """Tell whether a question is early."""
    return "early" if is_early(store.question_at(values[0])) else "late"


def do_compare(store, values):
    """Tell how two questions compare."""
    return comparison(store.question_at(values[0]), store.question_at(values[1]))


def ok(many):
    """Return the answer of a command that changes something."""
    return f"ok {many}"


def told(answers):
    """Return the text of some answers."""
    return " ".join([head_text(answer) for answer in answers]) if len(answers) > 0 else "none"


FORMS = {
    "base": ("name", "database"), "ask": ("name", "question"), "drop": ("name",), "forget": ("name",),
    "put": ("name", "row"), "take": ("name", "row"), "shut": ("name", "pattern"), "keep": ("name", "pattern"),
    "undo": (), "redo": (), "answers": ("name", "name"), "firm": ("name", "name"),
    "status": ("name", "name", "answer"), "rows": ("name",), "early": ("name",), "compare": ("name", "name"),
}
READERS = {
    "name": read_name, "database": read_database, "question": read_question, "row": read_row,
    "pattern": read_pattern, "answer": read_answer,
}
COMMANDS = {
    "base": do_base, "ask": do_ask, "drop": do_drop, "forget": do_forget, "put": do_put, "take": do_take,
    "shut": do_shut, "keep": do_keep, "undo": do_undo, "redo": do_redo, "answers": do_answers, "firm": do_firm,
    "status": do_status, "rows": do_rows, "early": do_early, "compare": do_compare,
}


def values_of(line):
    """Return the word of a command and the list of its values; ParseError if the line is none."""
    word, _, rest = line.partition(" ")
    if word not in FORMS:
        raise ParseError("not the word of a command")
    kinds = FORMS[word]
    # The last value is the rest of the line, with the spaces that are in it.
    pieces = rest.split(" ", len(kinds) - 1) if len(kinds) > 0 else []
    if len(pieces) != len(kinds) or len(kinds) == 0 and line != word:
        raise ParseError("too many or too few values")
    values = []
    for kind, piece in zip(kinds, pieces):
        read = READERS[kind]
        values.append(read(piece))
    return (word, values)


def done(store, line):
    """Do a command, and return its answer."""
    try:
        word, values = values_of(line)
    except ParseError:
        raise InvalidCommand("not a command") from None
    command = COMMANDS[word]
    return command(store, values)


def check_text(text):
    """Raise ParseError if the value is not a string."""
    if not isinstance(text, str):
        raise ParseError("not a string")


class Shell:
    """Does commands with a store of its own."""

    def __init__(self):
        self._store = Store()

    def do(self, line):
        """Do a command, and return its answer."""
        check_text(line)
        return done(self._store, line)

    def do_all(self, text):
        """Do the commands of the lines of a text, all or none, and return their answers in lines."""
        check_text(text)
        store = self._store.copied()
        answers = [done(store, line) for line in text.split("\n")]
        self._store = store
        return "\n".join(answers)

    def store(self):
        """Return a twin of the store."""
        return self._store.twin()
