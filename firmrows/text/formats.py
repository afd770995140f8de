"""Texts of values, and what they are read as."""

from firmrows.ask.questions import Question, check_question, check_rule, is_rule
from firmrows.base.databases import Database, check_database
from firmrows.base.rows import check_pattern, is_row
from firmrows.early.shapes import check_shape, is_shape
from firmrows.errors import InvalidLicence, InvalidQuestion, ParseError, TooMany
from firmrows.future.licences import Licence, check_licence
from firmrows.live.moves import MAX_ROWS
from firmrows.text.reader import Reader

ANY = "any"
NONE = "none"
EMPTY = "empty"


def head_text(head):
    """Return the text of a head."""
    inner = ", ".join([str(term) for term in head])
    return f"({inner})"


def pattern_text(pattern):
    """Return the text of a pattern."""
    return pattern[0] + head_text(pattern[1:])


def rows_text(rows):
    """Return the text of some rows."""
    return "; ".join([pattern_text(row) for row in rows]) if len(rows) > 0 else EMPTY


def part_text(part):
    """Return the text of a part of a licence."""
    if part == ANY:
        return ANY
    return ", ".join([pattern_text(pattern) for pattern in part]) if len(part) > 0 else NONE


def rule_text(rule):
    """Return the text of a rule."""
    head, wanted, barred, unlike = rule
    parts = [pattern_text(pattern) for pattern in wanted]
    parts.extend([f"not {pattern_text(pattern)}" for pattern in barred])
    parts.extend([f"{one} != {other}" for one, other in unlike])
    inner = ", ".join(parts)
    return f"{head_text(head)} if {inner}" if len(parts) > 0 else head_text(head)


def question_text(question):
    """Return the text of a question."""
    if len(question) == 0:
        return f"{NONE} {question.width}"
    return "; ".join([rule_text(rule) for rule in question.rules])


def licence_text(licence):
    """Return the text of a licence."""
    return " | ".join([
        f"come {part_text(licence.come)}",
        f"go {part_text(licence.go)}",
        f"shut {part_text(licence.shut)}",
        f"kept {part_text(licence.kept)}",
    ])


def shape_text(shape):
    """Return the text of a shape."""
    return f"{head_text(shape[0])} : {rows_text(shape[1])}"


def format_row(row):
    """Return the text of a row or a pattern."""
    check_pattern(row)
    return pattern_text(row)


def format_rule(rule):
    """Return the text of a rule."""
    check_rule(rule)
    return rule_text(rule)


def format_question(question):
    """Return the text of a question."""
    check_question(question)
    return question_text(question)


def format_database(database):
    """Return the text of a database."""
    check_database(database)
    return rows_text(database.rows)


def format_licence(licence):
    """Return the text of a licence."""
    check_licence(licence)
    return licence_text(licence)


def format_shape(shape):
    """Return the text of a shape."""
    check_shape(shape)
    return shape_text(shape)


def check_same(text, formatted):
    """Raise ParseError if a text is not the one that formatting returns for what was read."""
    if text != formatted:
        raise ParseError("not the text of such a value")


def parse_row(text):
    """Return the row or pattern of a text."""
    reader = Reader(text)
    pattern = reader.pattern()
    check_same(text, pattern_text(pattern))
    return pattern


def parse_rule(text):
    """Return the rule of a text."""
    reader = Reader(text)
    rule = reader.read_rule()
    check_same(text, rule_text(rule) if is_rule(rule) else None)
    return rule


def parse_question(text):
    """Return the question of a text."""
    reader = Reader(text)
    width = reader.read_width()
    rules = reader.read_rules() if width is None else ()
    try:
        question = Question.of(rules, width=width)
    except (InvalidQuestion, TooMany):
        raise ParseError("not the rules of a question") from None
    check_same(text, question_text(question))
    return question


def parse_database(text):
    """Return the database of a text."""
    reader = Reader(text)
    rows = reader.read_rows()
    right = len(rows) <= MAX_ROWS and all([is_row(row) for row in rows])
    check_same(text, rows_text(tuple(sorted(set(rows)))) if right else None)
    return Database.of(rows)


def parse_licence(text):
    """Return the licence of a text."""
    reader = Reader(text)
    come, go, shut, kept = reader.read_parts(("come ", " | go ", " | shut ", " | kept "))
    try:
        licence = Licence(come=come, go=go, shut=shut, kept=kept)
    except InvalidLicence:
        raise ParseError("not the parts of a licence") from None
    check_same(text, licence_text(licence))
    return licence


def parse_shape(text):
    """Return the shape of a text."""
    reader = Reader(text)
    head = reader.terms()
    reader.need(" : ")
    shape = (head, reader.read_rows())
    check_same(text, shape_text(shape) if is_shape(shape) else None)
    return shape
