"""Stores: bases and questions under names, changed in groups that can be undone."""

from firmrows.ask.questions import check_question
from firmrows.base.databases import check_database
from firmrows.base.rows import is_name
from firmrows.errors import InvalidEdit, InvalidOperation, UnknownName
from firmrows.future.licences import check_licence
from firmrows.live.moves import check_back, is_headed, put_row, take_row
from firmrows.papers.firm import firm_answers, firm_paper
from firmrows.papers.out import out_paper

LENGTHS = {"base": 4, "ask": 3, "drop": 2, "forget": 2, "put": 3, "take": 3, "seal": 5}

# A state is a pair of dicts from names, to pairs of a database and a licence, and to questions. No state changes:
# so those of earlier moments can be kept as they are.


def check_new(table, name):
    """Raise InvalidOperation if the value is not a name, or is a key of the dict."""
    if not is_name(name) or name in table:
        raise InvalidOperation("not a new name")


def known(table, name):
    """Return what a dict has for a name; UnknownName if it has nothing."""
    if not isinstance(name, str) or name not in table:
        raise UnknownName(name)
    return table[name]


def without(table, name):
    """Return the dict without a name; UnknownName if it is not there."""
    known(table, name)
    return {other: table[other] for other in table if other != name}


def with_base(state, change):
    """Return the state with a new base."""
    bases, questions = state
    _, name, database, licence = change
    check_new(bases, name)
    check_database(database)
    check_licence(licence)
    return ({**bases, name: (database, licence)}, questions)


def with_question(state, change):
    """Return the state with a new question."""
    bases, questions = state
    _, name, question = change
    check_new(questions, name)
    check_question(question)
    return (bases, {**questions, name: question})


def without_base(state, change):
    """Return the state without a base."""
    return (without(state[0], change[1]), state[1])


def without_question(state, change):
    """Return the state without a question."""
    return (state[0], without(state[1], change[1]))


def with_row(state, change):
    """Return the state with a row put in at a base."""
    bases, questions = state
    _, name, row = change
    database, licence = known(bases, name)
    return ({**bases, name: (put_row(database, licence, row), licence)}, questions)


def without_row(state, change):
    """Return the state with a row taken out at a base."""
    bases, questions = state
    _, name, row = change
    database, licence = known(bases, name)
    return ({**bases, name: (take_row(database, licence, row), licence)}, questions)


def with_seal(state, change):
    """Return the state with patterns sealed at a base."""
    bases, questions = state
    _, name, patterns, come, go = change
    if not isinstance(patterns, tuple):
        raise InvalidEdit("the patterns of a change are a tuple")
    database, licence = known(bases, name)
    return ({**bases, name: (database, licence.sealed(*patterns, come=come, go=go))}, questions)


CHANGES = {
    "base": with_base, "ask": with_question, "drop": without_base, "forget": without_question,
    "put": with_row, "take": without_row, "seal": with_seal,
}


def state_after(state, changes):
    """Return the state after some changes."""
    for change in changes:
        if not is_headed(change, dict(LENGTHS)):
            raise InvalidEdit("not a change")
        make = CHANGES[change[0]]
        state = make(state, change)
    return state


class Store:
    """Bases and questions under names."""

    def __init__(self):
        self._now = ({}, {})
        # Pairs of a group and the state ahead of it, and of a group that was taken back and the state behind it.
        self._done = ()
        self._undone = ()

    @property
    def bases(self):
        """The ascending tuple of the names of the bases."""
        return tuple(sorted(list(self._now[0])))

    @property
    def questions(self):
        """The ascending tuple of the names of the questions."""
        return tuple(sorted(list(self._now[1])))

    @property
    def log(self):
        """The tuple of the groups in effect, each a tuple of changes."""
        return tuple([group for group, _ in self._done])

    def apply(self, *changes):
        """Do changes as one group, all or none, and return the number of groups in effect."""
        return self.apply_all(changes)

    def apply_all(self, changes):
        """Do a tuple of changes as one group, all or none, and return the number of groups in effect."""
        if not isinstance(changes, tuple):
            raise InvalidOperation("the changes are a tuple")
        later = state_after(self._now, changes)
        if len(changes) > 0:
            self._done = self._done + ((changes, self._now),)
            self._undone = ()
            self._now = later
        return len(self._done)

    def undo(self, *, many=1):
        """Take back the last groups, and return the number of groups in effect."""
        check_back(many, len(self._done))
        for _ in range(many):
            group, before = self._done[-1]
            self._undone = self._undone + ((group, self._now),)
            self._done = self._done[:-1]
            self._now = before
        return len(self._done)

    def redo(self, *, many=1):
        """Do the groups again that were taken back last, and return the number of groups in effect."""
        check_back(many, len(self._undone))
        for _ in range(many):
            group, later = self._undone[-1]
            self._done = self._done + ((group, self._now),)
            self._undone = self._undone[:-1]
            self._now = later
        return len(self._done)

    def during(self, changes, call):
        """Do changes as one group, call a function with the store, and return its result; all is then as before."""
        now, done, undone = self._now, self._done, self._undone
        self.apply_all(changes)
        try:
            return call(self)
        finally:
            self._now, self._done, self._undone = now, done, undone

    def database_at(self, name):
        """Return the database of a base."""
        return known(self._now[0], name)[0]

    def licence_at(self, name):
        """Return the licence of a base."""
        return known(self._now[0], name)[1]

    def question_at(self, name):
        """Return the question with a name."""
        return known(self._now[1], name)

    def answers_at(self, base, name):
        """Return the ascending tuple of the answers of a question at a base."""
        database, _ = known(self._now[0], base)
        question = known(self._now[1], name)
        return question(database)

    def firm_at(self, base, name):
        """Return the ascending tuple of the firm answers of a question at a base."""
        database, licence = known(self._now[0], base)
        return firm_answers(known(self._now[1], name), database, licence)

    def papers_at(self, base, name, answer):
        """Return a firm paper and an out paper of an answer of a question at a base."""
        database, licence = known(self._now[0], base)
        question = known(self._now[1], name)
        firm = firm_paper(question, database, licence, answer)
        return (firm, out_paper(question, database, licence, answer))

    def twin(self):
        """Return an independent equal store without groups."""
        other = Store()
        other._now = self._now
        return other

    def copied(self):
        """Return an independent equal store with the same groups."""
        other = self.twin()
        other._done = self._done
        other._undone = self._undone
        return other

    def __len__(self):
        return len(self._done)

    def __eq__(self, other):
        return isinstance(other, Store) and self._now == other._now

    def __str__(self):
        return f"store of {len(self._now[0])} bases, {len(self._now[1])} questions"
