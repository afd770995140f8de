"""Rules, and questions made of them."""

from firmrows.ask.joins import answers_of
from firmrows.ask.rules import numbers_in, put_in_rule, variables_in
from firmrows.base.databases import check_database
from firmrows.base.rows import MAX_TERMS, is_exchange, is_integer, is_integers, is_pattern, is_term
from firmrows.errors import InvalidAnswer, InvalidNumber, InvalidOperation, InvalidQuestion, TooMany

MAX_WANTED = 4
MAX_BARRED = 3
MAX_UNLIKE = 4
MAX_VARIABLES = 4
MAX_RULES = 8


def is_short(value, most):
    """Return whether the value is a tuple of at most so many values."""
    return isinstance(value, tuple) and len(value) <= most


def is_terms(value, most):
    """Return whether the value is a tuple of at most so many terms."""
    return is_short(value, most) and all([is_term(part) for part in value])


def is_patterns(value, most):
    """Return whether the value is a tuple of at most so many patterns."""
    return is_short(value, most) and all([is_pattern(part) for part in value])


def is_pairs(value, most):
    """Return whether the value is a tuple of at most so many pairs of terms."""
    return is_short(value, most) and all([is_terms(part, 2) and len(part) == 2 for part in value])


def is_rule(value):
    """Return whether the value is a rule."""
    if not isinstance(value, tuple) or len(value) != 4:
        return False
    head, wanted, barred, unlike = value
    if not is_terms(head, MAX_TERMS) or not is_patterns(wanted, MAX_WANTED):
        return False
    if not is_patterns(barred, MAX_BARRED) or not is_pairs(unlike, MAX_UNLIKE):
        return False
    variables = variables_in(value)
    bound = variables_in(((), wanted, (), ()))
    return variables == bound and len(variables) <= MAX_VARIABLES


def check_rule(rule):
    """Raise InvalidQuestion if the value is not a rule."""
    if not is_rule(rule):
        raise InvalidQuestion("not a rule")


def make_rule(head, *wanted, barred=(), unlike=()):
    """Return the rule (head, wanted, barred, unlike)."""
    rule = (head, wanted, barred, unlike)
    check_rule(rule)
    return rule


def variables_of(rule):
    """Return the ascending tuple of the variables of a rule."""
    check_rule(rule)
    return variables_in(rule)


class Question:
    """Different rules in an order, with heads of one length. It never changes."""

    def __init__(self, *rules, width=None):
        check_rules(rules)
        self._width = width_of(rules, width)
        different = {rule: True for rule in rules}
        if len(different) > MAX_RULES:
            raise TooMany(MAX_RULES)
        self._rules = tuple(list(different))
        self._named = None

    @classmethod
    def of(cls, rules, *, width=None):
        """Return the question with the rules of a tuple."""
        if not isinstance(rules, tuple):
            raise InvalidQuestion("the rules of a question are a tuple")
        return cls(*rules, width=width)

    @property
    def rules(self):
        """The tuple of the rules."""
        return self._rules

    @property
    def width(self):
        """The length of the heads."""
        return self._width

    @property
    def named(self):
        """The ascending tuple of the integers that stand in the rules."""
        if self._named is None:
            self._named = numbers_in(self._rules)
        return self._named

    def __call__(self, database):
        check_database(database)
        found = [answer for rule in self._rules for answer in answers_of(rule, database)]
        return tuple(sorted(set(found)))

    def with_rule(self, rule):
        """Return the question with one rule more at the end."""
        rules = self._rules + (rule,)
        return Question(*rules, width=self._width)

    def without_rule(self, index):
        """Return the question without the rule with this index, with the same width."""
        check_index(self, index)
        return made_question(self._rules[:index] + self._rules[index + 1:], self._width)

    def moved(self, numbers):
        """Return the question in which the integers that are keys of a dict are replaced."""
        if not is_exchange(numbers):
            raise InvalidOperation("not a dict from integers to integers")
        return made_question([put_in_rule(rule, numbers) for rule in self._rules], self._width)

    def __or__(self, other):
        if not isinstance(other, Question) or self._width != other._width:
            raise InvalidOperation("the other value is not a question of the same width")
        rules = self._rules + other._rules
        return Question(*rules, width=self._width)

    def __len__(self):
        return len(self._rules)

    def __eq__(self, other):
        return isinstance(other, Question) and self._rules == other._rules and self._width == other._width

    def __str__(self):
        return f"question of {len(self._rules)} rules, width {self._width}"


def made_question(rules, width):
    """Return the question with rules that are known to be rules of this width, and not too many."""
    question = Question(width=width)
    question._rules = tuple(list({rule: True for rule in rules}))
    return question


def check_rules(rules):
    """Raise InvalidQuestion if a value is not a rule, or if heads have different lengths."""
    for rule in rules:
        check_rule(rule)
    if len(set([len(rule[0]) for rule in rules])) > 1:
        raise InvalidQuestion("heads of different lengths")


def check_width(width):
    """Raise InvalidNumber if the value is neither None nor the length that a head can have."""
    if width is not None and (not is_integer(width) or not 0 <= width <= MAX_TERMS):
        raise InvalidNumber(width)


def width_of(rules, width):
    """Return the width of a question with these rules that was made with this `width`."""
    check_width(width)
    if len(rules) == 0:
        return 0 if width is None else width
    length = len(rules[0][0])
    if width is not None and width != length:
        raise InvalidQuestion("the width is not the length of the heads")
    return length


def check_question(question):
    """Raise InvalidQuestion if the value is not a question."""
    if not isinstance(question, Question):
        raise InvalidQuestion("not a question")


def check_answer(question, answer):
    """Raise InvalidAnswer if the value is not a tuple of as many integers as the width."""
    if not is_integers(answer) or len(answer) != question.width:
        raise InvalidAnswer("not a tuple of as many integers as the width of the question")


def check_index(question, index):
    """Raise InvalidNumber if the value is not the index of a rule of the question."""
    if not is_integer(index) or not 0 <= index < len(question):
        raise InvalidNumber(index)
