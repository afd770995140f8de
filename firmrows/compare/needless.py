"""Parts of a question that are not needed."""

from firmrows.ask.questions import check_question, made_question
from firmrows.ask.rules import variables_in
from firmrows.base.rows import is_integer
from firmrows.compare.cases import Cases
from firmrows.compare.within import are_within, paper_within
from firmrows.errors import InvalidOperation

RULE = "rule"
WANTED = "wanted"
BARRED = "barred"
UNLIKE = "unlike"
PLACES = {"wanted": 1, "barred": 2, "unlike": 3}


def without(values, index):
    """Return the tuple without the value with this index."""
    return values[:index] + values[index + 1:]


def can_miss(rule, index):
    """Return whether each variable of the rule is in another wanted pattern than the one with this index."""
    rest = ((), without(rule[1], index), (), ())
    return variables_in(rest) == variables_in(rule)


def parts_of_rule_at(rule, k):
    """Return the list of the parts of the rule with the index k."""
    _, wanted, barred, unlike = rule
    parts = [(RULE, k)] + [(WANTED, k, i) for i in range(len(wanted)) if can_miss(rule, i)]
    parts.extend([(BARRED, k, i) for i in range(len(barred))])
    return parts + [(UNLIKE, k, i) for i in range(len(unlike))]


def every_part(question):
    """Return what `parts_of` returns, for a question that is checked."""
    return tuple([part for k, rule in enumerate(question.rules) for part in parts_of_rule_at(rule, k)])


def parts_of(question):
    """Return the tuple of the parts of a question."""
    check_question(question)
    return every_part(question)


def check_part(question, part):
    """Raise InvalidOperation if the value is not a part of the question."""
    # (.., True) is equal to (.., 1), but True is no index.
    right = isinstance(part, tuple) and all([is_integer(index) for index in part[1:]])
    if not right or part not in every_part(question):
        raise InvalidOperation("not a part of the question")


def rule_without(question, part):
    """Return what is left of the rule in which a part stands that is no whole rule."""
    rule = question.rules[part[1]]
    place = PLACES[part[0]]
    less = without(rule[place], part[2])
    return rule[:place] + (less,) + rule[place + 1:]


def rest_without(question, part):
    """Return what `rest_of` returns, for arguments that are checked."""
    k = part[1]
    rules = question.rules
    middle = () if part[0] == RULE else (rule_without(question, part),)
    return made_question(rules[:k] + middle + rules[k + 1:], question.width)


def rest_of(question, part):
    """Return the question without a part."""
    check_question(question)
    check_part(question, part)
    return rest_without(question, part)


def part_paper(question, part):
    """Return a within paper that begins with "within" exactly if the part is needless."""
    check_question(question)
    check_part(question, part)
    rest = rest_without(question, part)
    return paper_within(question, rest) if part[0] == RULE else paper_within(rest, question)


class Needless:
    """Which parts of a question are needless.

    The dict keeps which rules are within the question. While only needless parts are left out, that stays
    true or false; and a part of a rule is needless exactly if what is left of the rule is within the question.
    """

    def __init__(self, question, known):
        self._question = question
        self._known = known
        self._cases = Cases(question)

    def has_within(self, rule):
        """Return whether a rule, without other integers than the question has, is within the question."""
        if rule in self._question.rules:
            return True
        if rule not in self._known:
            self._known[rule] = are_within((rule,), self._question.named, self._cases)
        return self._known[rule]

    def has_part(self, part):
        """Return whether a part is needless."""
        question = self._question
        if part[0] != RULE:
            return self.has_within(rule_without(question, part))
        return are_within((question.rules[part[1]],), question.named, Cases(rest_without(question, part)))


def needless(question):
    """Return the tuple of the needless parts."""
    check_question(question)
    search = Needless(question, {})
    return tuple([part for part in every_part(question) if search.has_part(part)])


def first_needless(question, known):
    """Return the first needless part, or None."""
    search = Needless(question, known)
    for part in every_part(question):
        if search.has_part(part):
            return part
    return None


def trimmed(question):
    """Return the question without needless parts, the first one being left out again and again."""
    check_question(question)
    known = {}
    part = first_needless(question, known)
    while part is not None:
        question = rest_without(question, part)
        part = first_needless(question, known)
    return question
