"""Caches: promise [17.5]."""

import random
import unittest

from firmrows.ask.questions import Question, make_rule
from firmrows.base.databases import Database
from firmrows.errors import InvalidAnswer, InvalidDatabase, InvalidEdit, InvalidQuestion, TooMany
from firmrows.live.caches import Cache
from firmrows.live.edits import edit_paper, effects
from tests.chance import some_database, some_row, some_small_question
from tests.samples import (
    ALONE, ROWS, SPLIT, ObjectTests, every_value, looks_like_edit, looks_like_integers, looks_like_row, wrong_answers, wrong_for, wrong_objects,
)


def filled(question, database):
    cache = Cache(question)
    cache.fill(database)
    return cache


class CacheTests(ObjectTests):
    def test_histories(self):
        source = random.Random(176)
        told = []
        for _ in range(250):
            question = some_small_question(source, source.randrange(3))
            base = some_database(source, 2)
            cache = Cache(question)
            self.assertEqual((cache.answers, cache.is_whole, len(cache)), ((), False, 0))
            for _ in range(source.randrange(1, 9)):
                now = question(base)
                if source.random() < 0.15:
                    self.assertEqual(cache.fill(base), len(now))
                    self.assertEqual((cache.answers, cache.is_whole), (now, True))
                elif now and source.random() < 0.15:
                    held, whole = cache.answers, cache.is_whole
                    more = source.choices(now, k=2)
                    self.assertEqual(cache.add(*more), len(set(held) | set(more)))
                    self.assertEqual((cache.answers, cache.is_whole), (tuple(sorted(set(held) | set(more))), whole))
                edit = (source.choice(("put", "take")), some_row(source, 2))
                held, whole = cache.answers, cache.is_whole
                try:
                    expected = tuple(answer for answer in held if edit_paper(question, edit, answer)[0] == "lost")
                    brings = effects(question, edit)[1]
                    forgotten = cache.tell(edit)
                except TooMany as error:
                    self.assertIn(error.limit, (16, 2000))
                    self.assertEqual((cache.answers, cache.is_whole), (held, whole))
                    break
                base = base.with_rows(edit[1]) if edit[0] == "put" else base.without_rows(edit[1])
                self.assertEqual(forgotten, expected)
                self.assertEqual(cache.answers, tuple(answer for answer in held if answer not in expected))
                self.assertIs(cache.is_whole, whole and not expected and not brings)
                self.assertTrue(set(cache.answers) <= set(question(base)))
                self.assertTrue(not cache.is_whole or cache.answers == question(base))
                told.append((bool(forgotten), whole, cache.is_whole))
        for kind in ((True, True, False), (False, True, False), (False, True, True), (False, False, False), (True, False, False)):
            self.assertGreater(told.count(kind), 10, kind)

    def test_more_than_the_table_of_an_edit(self):
        # [0.20]: a row of the table of the question, which changes nothing for other integers.
        cache = filled(ALONE, ROWS)
        self.assertEqual([cache.tell(("put", ("s", 7))), str(cache)], [(), "cache of 1 answers, whole"])
        self.assertEqual([cache.tell(("put", ("s", 1))), str(cache)], [((1,),), "cache of 0 answers"])
        # A row that is there already is not known to be there.
        cache = filled(ALONE, ROWS)
        self.assertEqual([cache.tell(("put", ("t", 1))), str(cache)], [(), "cache of 1 answers"])
        cache = filled(ALONE, ROWS)
        self.assertEqual([cache.tell(("take", ("t", 9))), str(cache)], [(), "cache of 1 answers, whole"])
        cache = filled(SPLIT, ROWS)
        self.assertEqual([cache.tell(("put", ("s", 1))), cache.tell(("take", ("s", 1))), cache.is_whole], [(), (), True])
        self.assertEqual([cache.tell(("take", ("t", 1))), cache.answers, cache.is_whole], [((1,),), ((2,),), False])
        self.assertEqual([cache.fill(ROWS), cache.is_whole], [2, True])

    def test_object(self):
        one, same = filled(ALONE, ROWS), Cache(ALONE)
        same.fill(Database(("t", 1)))
        added = Cache(ALONE)
        added.add((1,))
        more = filled(ALONE, ROWS)
        more.add((5,))
        self.check_object(one, same, [added, more, Cache(ALONE), filled(SPLIT, Database(("t", 1))), filled(SPLIT, ROWS)])
        self.check_sealed(one, ("question", "answers", "is_whole"))
        self.assertEqual([str(one), str(added), str(Cache(ALONE)), bool(Cache(ALONE)), bool(one)],
                         ["cache of 1 answers, whole", "cache of 1 answers", "cache of 0 answers", False, True])
        self.assertEqual([one.question, one.answers, one.is_whole, len(more)], [ALONE, ((1,),), True, 2])
        for value in every_value():
            self.assertIs(value in one, looks_like_integers(value) and value == (1,))
        self.assertEqual([(1,) in one, (True,) in one, (2,) in one, [1] in one, () in filled(Question(make_rule(())), ROWS)],
                         [True, False, False, False, True])
        self.assertEqual([added.add(), added.add((1,), (1,), (0,)), added.answers], [1, 2, ((0,), (1,))])

    def test_no_access_to_the_state(self):
        one, other = Cache(ALONE), Cache(ALONE)
        one.fill(ROWS)
        self.assertEqual(other.answers, ())
        held = one.answers
        one.add((9,))
        self.assertEqual(held, ((1,),))
        self.assertEqual([Cache(ALONE) == Cache(ALONE), one == other], [True, False])

    def test_errors(self):
        self.check_errors(Cache, (SPLIT, wrong_objects(Question), InvalidQuestion))
        self.check_errors(lambda base: Cache(ALONE).fill(base), (ROWS, wrong_objects(Database), InvalidDatabase))
        edits = (("put", ("s", 1)), wrong_for(lambda value: looks_like_edit(value) and looks_like_row(value[1])), InvalidEdit)
        self.check_errors(lambda edit: filled(ALONE, ROWS).tell(edit), edits)
        self.check_errors(lambda *answers: Cache(ALONE).add((5,), *answers), ((1,), wrong_answers(1), InvalidAnswer))
        cache = filled(ALONE, ROWS)
        for call, error in ((lambda: cache.add((7,), None), InvalidAnswer), (lambda: cache.tell(("put", ("s", "x"))), InvalidEdit),
                            (lambda: cache.fill(None), InvalidDatabase)):
            self.assertRaises(error, call)
            self.assertEqual((cache.answers, cache.is_whole), (((1,),), True))


if __name__ == "__main__":
    unittest.main()
