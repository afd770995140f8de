"""Engines: they show each answer at the first moment at which it stays."""

from firmrows.ask.questions import Question, check_answer, check_question
from firmrows.base.databases import Database, check_database
from firmrows.errors import InvalidOperation
from firmrows.future.licences import Licence, check_licence
from firmrows.live.moves import PUT, SEAL, TAKE, check_back, is_headed, put_row, take_row
from firmrows.papers.firm import is_firm
from firmrows.papers.out import status

LENGTHS = {"put": 2, "take": 2, "seal": 4}


def shown_with(question, licence, database, before):
    """Return the ascending tuple of the firm answers, some of which are known from before."""
    new = [answer for answer in question(database) if answer not in before]
    return tuple(sorted(list(before) + [answer for answer in new if is_firm(question, database, licence, answer)]))


def check_moves(moves):
    """Raise InvalidOperation for the first value that has not the form of a move."""
    for move in moves:
        if not is_headed(move, dict(LENGTHS)) or move[0] == SEAL and not isinstance(move[1], tuple):
            raise InvalidOperation("not a move")


class Engine:
    """A question, and a database whose rows come and go by a licence."""

    def __init__(self, question, licence, *, database=None):
        check_question(question)
        check_licence(licence)
        base = Database() if database is None else database
        check_database(base)
        self._question = question
        self._log = ()
        # The licence, the database and the shown answers at each moment.
        self._states = ((licence, base, shown_with(question, licence, base, ())),)

    @property
    def question(self):
        """The question."""
        return self._question

    @property
    def licence(self):
        """The licence as it is now."""
        return self._states[len(self._log)][0]

    @property
    def database(self):
        """The database as it is now."""
        return self._states[len(self._log)][1]

    @property
    def shown(self):
        """The ascending tuple of the firm answers."""
        return self._states[len(self._log)][2]

    @property
    def log(self):
        """The tuple of the moves."""
        return self._log

    def _go_on(self, move, licence, database):
        """Make a move that leads to a licence and a database, and return the answers that are new."""
        before = self.shown
        shown = shown_with(self._question, licence, database, before)
        self._states = self._states + ((licence, database, shown),)
        self._log = self._log + (move,)
        return tuple([answer for answer in shown if answer not in before])

    def put(self, row):
        """Put a row in, and return the answers that are shown now and were not shown before."""
        return self._go_on((PUT, row), self.licence, put_row(self.database, self.licence, row))

    def take(self, row):
        """Take a row out, and return the answers that are shown now and were not shown before."""
        return self._go_on((TAKE, row), self.licence, take_row(self.database, self.licence, row))

    def seal(self, *patterns, come=True, go=True):
        """Seal patterns, and return the answers that are shown now and were not shown before."""
        licence = self.licence.sealed(*patterns, come=come, go=go)
        return self._go_on((SEAL, patterns, come, go), licence, self.database)

    def status(self, answer):
        """Return "firm", "out" or "open"."""
        return status(self._question, self.database, self.licence, answer)

    def since(self, answer):
        """Return how many moves had been made when an answer was first shown, or None."""
        check_answer(self._question, answer)
        for many, state in enumerate(self._states):
            if answer in state[2]:
                return many
        return None

    def back(self, *, many=1):
        """Take back the last moves, and return how many are left."""
        check_back(many, len(self._log))
        left = len(self._log) - many
        self._log = self._log[:left]
        self._states = self._states[:left + 1]
        return left

    def _do(self, move):
        """Make a move that is told as in the log."""
        if move[0] == PUT:
            self.put(move[1])
        elif move[0] == TAKE:
            self.take(move[1])
        else:
            _, patterns, come, go = move
            self.seal(*patterns, come=come, go=go)

    def after(self, *moves):
        """Return an independent engine with further moves."""
        check_moves(moves)
        other = Engine(Question(), Licence())
        other._question = self._question
        other._log = self._log
        other._states = self._states
        for move in moves:
            other._do(move)
        return other

    def __len__(self):
        return len(self._log)

    def __eq__(self, other):
        if not isinstance(other, Engine):
            return False
        if self._log != other._log or self._question != other._question:
            return False
        return self.licence == other.licence and self.database == other.database

    def __str__(self):
        return f"engine of {len(self.database)} rows, {len(self.shown)} answers shown"
