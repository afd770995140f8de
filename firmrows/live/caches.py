"""Caches: answers that are held while rows come and go unseen."""

from firmrows.ask.questions import check_answer, check_question
from firmrows.base.databases import check_database
from firmrows.base.rows import is_integers
from firmrows.live.edits import can_bring, can_lose, check_row_edit


class Cache:
    """Answers of a question in a database that the cache does not see."""

    def __init__(self, question):
        check_question(question)
        self._question = question
        self._answers = ()
        self._is_whole = False

    @property
    def question(self):
        """The question."""
        return self._question

    @property
    def answers(self):
        """The ascending tuple of the answers that are held."""
        return self._answers

    @property
    def is_whole(self):
        """Whether all answers are held, for certain."""
        return self._is_whole

    def fill(self, database):
        """Hold exactly the answers in a database, and return how many they are."""
        check_database(database)
        question = self._question
        self._answers = question(database)
        self._is_whole = True
        return len(self._answers)

    def add(self, *answers):
        """Hold these answers, too, and return how many are held."""
        for answer in answers:
            check_answer(self._question, answer)
        self._answers = tuple(sorted(set(self._answers + answers)))
        return len(self._answers)

    def tell(self, edit):
        """Forget the answers that an edit can lose, and return them."""
        check_row_edit(edit)
        lost = tuple([answer for answer in self._answers if can_lose(self._question, edit, answer)])
        stays = self._is_whole and len(lost) == 0 and not can_bring(self._question, edit)
        self._answers = tuple([answer for answer in self._answers if answer not in lost])
        self._is_whole = stays
        return lost

    def __contains__(self, value):
        # (True,) is equal to (1,), but it is no answer.
        return is_integers(value) and value in self._answers

    def __len__(self):
        return len(self._answers)

    def __eq__(self, other):
        if not isinstance(other, Cache):
            return False
        if self._answers != other._answers or self._is_whole != other._is_whole:
            return False
        return self._question == other._question

    def __str__(self):
        if self._is_whole:
            return f"cache of {len(self._answers)} answers, whole"
        return f"cache of {len(self._answers)} answers"
