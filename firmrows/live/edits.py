"""Edits: whether a row that is put in or taken out can lose or bring answers."""

from firmrows.ask.questions import check_answer, check_question
from firmrows.base.databases import Database
from firmrows.base.patterns import bound
from firmrows.base.rows import check_pattern, is_integer, is_pattern, is_row
from firmrows.compare.cases import Cases, are_trees_for
from firmrows.compare.frozen import joint
from firmrows.compare.within import has_answer, is_answer_in
from firmrows.errors import InvalidEdit
from firmrows.live.pairs import AMONG, AWAY, BESIDE, EVERY, cases_of, freeze_pairs, freeze_pairs_for
from firmrows.papers.chances import rules_for

PUT = "put"
TAKE = "take"
KEPT = "kept"
LOST = "lost"
LOSS = "loss"
GAIN = "gain"
NO_LOSS = "no loss"
NO_GAIN = "no gain"


def is_edit(value):
    """Return whether the value is an edit."""
    return isinstance(value, tuple) and len(value) == 2 and value[0] in (PUT, TAKE) and is_pattern(value[1])


def check_edit(edit):
    """Raise InvalidEdit if the value is not an edit."""
    if not is_edit(edit):
        raise InvalidEdit("not an edit")


def check_row_edit(edit):
    """Raise InvalidEdit if the value is not an edit with a row."""
    if not is_edit(edit) or not is_row(edit[1]):
        raise InvalidEdit("not an edit with a row")


def numbers_with(question, pattern):
    """Return the ascending tuple of the integers of a question and of a pattern."""
    return joint(question.named, tuple([term for term in pattern[1:] if is_integer(term)]))


def frozen_pairs(question, pattern):
    """Return the ascending tuple of the different frozen pairs."""
    check_question(question)
    check_pattern(pattern)
    return freeze_pairs(question.rules, numbers_with(question, pattern), pattern, EVERY)


def paper_of(question, pattern, kind):
    """Return a pair: the trees for the pairs of a kind and None, or None and a triple of a loss or gain paper."""
    pairs = freeze_pairs(question.rules, numbers_with(question, pattern), pattern, kind)
    cases = cases_of(pairs, kind)
    trees, lost, spoiler = Cases(question).trees(cases, [None for _ in cases])
    if trees is not None:
        return (trees, None)
    row = pairs[cases.index(lost)][3]
    return (None, (spoiler - Database(row), row, lost[0]))


def is_paper_of(question, pattern, kind, words, value):
    """Return whether the value is a loss or gain paper, with the one word of this kind or the other one."""
    if not isinstance(value, tuple) or len(value) == 0:
        return False
    if len(value) == 2 and value[0] == words[0]:
        numbers = numbers_with(question, pattern)
        pairs = freeze_pairs_for(question.rules, numbers, pattern, kind, value[1])
        return pairs is not None and are_trees_for(question, cases_of(pairs, kind), value[1])
    if len(value) != 4 or value[0] != words[1]:
        return False
    _, base, row, answer = value
    if not is_answer_in(question, base, answer) or not is_row(row) or bound(pattern, row) is None or row in base:
        return False
    there = has_answer(question, base, answer)
    later = has_answer(question, base.with_rows(row), answer)
    return later and not there if kind == AMONG else there and not later


def loss_paper(question, pattern):
    """Return a paper that shows that the question has a loss by a pattern, or that it has none."""
    check_question(question)
    check_pattern(pattern)
    trees, lost = paper_of(question, pattern, BESIDE)
    return (NO_LOSS, trees) if lost is None else (LOSS,) + lost


def is_loss_paper(question, pattern, value):
    """Return whether the value is a loss paper."""
    check_question(question)
    check_pattern(pattern)
    return is_paper_of(question, pattern, BESIDE, (NO_LOSS, LOSS), value)


def gain_paper(question, pattern):
    """Return a paper that shows that the question has a gain by a pattern, or that it has none."""
    check_question(question)
    check_pattern(pattern)
    trees, lost = paper_of(question, pattern, AMONG)
    return (NO_GAIN, trees) if lost is None else (GAIN,) + lost


def is_gain_paper(question, pattern, value):
    """Return whether the value is a gain paper."""
    check_question(question)
    check_pattern(pattern)
    return is_paper_of(question, pattern, AMONG, (NO_GAIN, GAIN), value)


def has_change(question, rules, numbers, pattern, kind):
    """Return whether some pair of a kind, of some rules, has a spoiler.

    If a row comes that is not among the barred ones, the match of the frozen rule stays. So for a loss it is
    enough to look at the pairs whose row is away.
    """
    search = Cases(question)
    for case in cases_of(freeze_pairs(rules, numbers, pattern, kind), kind):
        if search.search(case, None)[0] is None:
            return True
    return False


def has_loss(question, pattern):
    """Return whether the question has a loss by a pattern."""
    return has_change(question, question.rules, numbers_with(question, pattern), pattern, AWAY)


def has_gain(question, pattern):
    """Return whether the question has a gain by a pattern."""
    return has_change(question, question.rules, numbers_with(question, pattern), pattern, AMONG)


def can_bring(question, edit):
    """Return whether an edit can bring an answer."""
    word, pattern = edit
    return has_gain(question, pattern) if word == PUT else has_loss(question, pattern)


def effects(question, edit):
    """Return whether an edit can lose an answer, and whether it can bring one."""
    check_question(question)
    check_edit(edit)
    word, pattern = edit
    loses = has_loss(question, pattern) if word == PUT else has_gain(question, pattern)
    return (loses, can_bring(question, edit))


def is_deaf(question, pattern):
    """Return whether rows of a pattern can neither lose nor bring an answer."""
    check_question(question)
    check_pattern(pattern)
    return not has_loss(question, pattern) and not has_gain(question, pattern)


def rules_and_numbers(question, row, answer):
    """Return the list of the rules with the answer as their head, and the integers for which they are frozen."""
    rules = [rule for _, _, rule in rules_for(question, answer)]
    return (rules, joint(numbers_with(question, row), answer))


def can_lose(question, edit, answer):
    """Return whether some database has an answer ahead of an edit with a row, but not behind it."""
    word, row = edit
    rules, numbers = rules_and_numbers(question, row, answer)
    return has_change(question, rules, numbers, row, AWAY if word == PUT else AMONG)


def check_edit_and_answer(question, edit, answer):
    """Raise the error for the first of the arguments that is not valid."""
    check_question(question)
    check_row_edit(edit)
    check_answer(question, answer)


def edit_paper(question, edit, answer):
    """Return a paper that shows that an edit keeps an answer in every database, or that it does not."""
    check_edit_and_answer(question, edit, answer)
    word, row = edit
    kind = BESIDE if word == PUT else AMONG
    rules, numbers = rules_and_numbers(question, row, answer)
    cases = cases_of(freeze_pairs(rules, numbers, row, kind), kind)
    trees, _, spoiler = Cases(question).trees(cases, [None for _ in cases])
    if trees is not None:
        return (KEPT, trees)
    return (LOST, spoiler.without_rows(row) if word == PUT else spoiler.with_rows(row))


def is_edit_paper(question, edit, answer, value):
    """Return whether the value is an edit paper."""
    check_edit_and_answer(question, edit, answer)
    if not isinstance(value, tuple) or len(value) != 2:
        return False
    word, row = edit
    if value[0] == LOST:
        base = value[1]
        if not isinstance(base, Database) or not has_answer(question, base, answer):
            return False
        later = base.with_rows(row) if word == PUT else base.without_rows(row)
        return not has_answer(question, later, answer)
    kind = BESIDE if word == PUT else AMONG
    rules, numbers = rules_and_numbers(question, row, answer)
    if value[0] != KEPT:
        return False
    pairs = freeze_pairs_for(rules, numbers, row, kind, value[1])
    return pairs is not None and are_trees_for(question, cases_of(pairs, kind), value[1])
