"""Networks: promises [19.1] and [19.2]."""

import random
import unittest
from itertools import permutations

from firmrows.base.databases import Database
from firmrows.early.early import early_paper, is_early, kept_answers
from firmrows.errors import InvalidDatabase, InvalidOperation, InvalidRow, UnknownName
from firmrows.live.networks import Network, trap
from tests.chance import asked_database, early_question, lively_question, some_small_question
from tests.samples import (
    ALONE, EITHER, PLAIN_VALUES, ROWS, SPLIT, ObjectTests, every_value, looks_like_integers, looks_like_name, wrong_for, wrong_rows,
)

PARTS = {"p": Database(("t", 1)), "q": Database(("s", 1))}
NO_WAYS = [value for value in every_value() if value is None or type(value) in (bool, int, str, tuple, list, dict)]


def nothing(database):
    return ()


class Trouble(Exception):
    """An error that a way raises."""


def careful(database):
    if ("s", 2) in database:
        raise Trouble
    return SPLIT(database)


def some_parts(source, question, most=4):
    names = source.sample(("a", "b", "node", "x", "zz", "abcdefgh"), source.randrange(1, most + 1))
    return {name: asked_database(source, question, 3) for name in names}


def state(network):
    return (network.names, network.whole, network.waiting, network.shown, [network.at(name) for name in network.names],
            [network.shown_by(name) for name in network.names])


class NetworkTests(ObjectTests):
    def check_moment(self, network, way, at, shown, whole):
        waiting = tuple((name, row) for name in sorted(at) for row in whole.rows if row not in at[name])
        self.assertEqual((network.waiting, len(network), bool(network)), (waiting, len(waiting), len(waiting) > 0))
        self.assertEqual(network.shown, tuple(sorted(set().union(*shown.values()))))
        for name in at:
            self.assertEqual((network.at(name), network.shown_by(name)), (at[name], tuple(sorted(shown[name]))))
        self.assertEqual((network.names, network.whole), (tuple(sorted(at)), whole))
        self.assertEqual(str(network), f"network of {len(at)} nodes, {len(waiting)} rows waiting")

    def test_drawn_orders(self):
        source = random.Random(191)
        many = 0
        for _ in range(1000):
            question = lively_question(source)
            parts = some_parts(source, question)
            whole = Database(*[row for part in parts.values() for row in part.rows])
            network = Network(question, parts)
            at, shown = dict(parts), {name: set(question(parts[name])) for name in parts}
            self.check_moment(network, question, at, shown, whole)
            while network:
                name = source.choice([name for name, _ in network.waiting])
                rows = [row for other, row in network.waiting if other == name]
                rows = source.sample(rows, source.randrange(1, len(rows) + 1))
                before = network.shown
                if source.random() < 0.2:
                    twin = network.twin()
                    self.assertEqual(twin.finish(), twin.shown)
                    self.assertEqual((len(twin), network.shown), (0, before))
                new = network.bring(name, *rows)
                at[name] = at[name].with_rows(*rows)
                shown[name] |= set(question(at[name]))
                self.check_moment(network, question, at, shown, whole)
                self.assertEqual(new, tuple(answer for answer in network.shown if answer not in before))
                many += len(new)
            self.assertTrue(all(network.at(name) == whole for name in network.names))
        self.assertGreater(many, 25)

    def test_every_order(self):
        # An early question shows exactly the answers of the whole; so it is for its kept answers.
        source = random.Random(192)
        for _ in range(30):
            question = early_question(source, source.randrange(2))
            parts = {name: asked_database(source, question, 2) for name in "ab"}
            start = Network(question, parts)
            for order in permutations(start.waiting):
                network = start.twin()
                for name, row in order:
                    network.bring(name, row)
                self.assertEqual((network.shown, len(network)), (question(network.whole), 0))
            self.assertEqual(start.twin().finish(), question(start.whole))

    def test_kept_answers_are_no_way_of_late_questions(self):
        way = lambda database: kept_answers(ALONE, database)
        network = Network(way, {"a": Database(("t", 1))})
        self.assertEqual([network.shown, network.finish(), ALONE(network.whole)], [(), (), ((1,),)])

    def test_finish(self):
        seen = []

        def way(database):
            seen.append(database.rows)
            return tuple((number,) for number in reversed(database.numbers)) * 2

        network = Network(way, {"b": Database(("t", 2), ("t", 3)), "a": Database(("t", 1))})
        self.assertEqual(seen, [(("t", 1),), (("t", 2), ("t", 3))])
        self.assertEqual(network.shown_by("b"), ((2,), (3,)))
        self.assertEqual(network.finish(), ((1,), (2,), (3,)))
        self.assertEqual(seen[2:], [(("t", 1), ("t", 2)), (("t", 1), ("t", 2), ("t", 3)), (("t", 1), ("t", 2), ("t", 3))])
        self.assertEqual([network.finish(), len(seen), network.bring("a"), len(seen), str(network)],
                         [((1,), (2,), (3,)), 5, (), 5, "network of 2 nodes, 0 rows waiting"])

    def test_what_was_shown_stays_shown(self):
        network = Network(ALONE, PARTS)
        self.assertEqual([network.shown, network.bring("p", ("s", 1)), network.shown, network.shown_by("p"), network.at("p")],
                         [((1,),), (), ((1,),), ((1,),), Database(("s", 1), ("t", 1))])

    def test_errors_of_a_way(self):
        self.assertRaises(Trouble, Network, careful, {"a": ROWS})
        network = Network(careful, {"a": Database(("t", 1)), "b": Database(("t", 3))})
        late = Network(careful, {"a": Database(("t", 1), ("t", 2)), "b": Database(("s", 1), ("t", 3))})
        self.assertEqual(network.finish(), ((1,), (3,)))
        whole = Network(nothing, {"a": Database(("s", 1)), "b": Database(("s", 2), ("t", 1))})
        whole._way = careful
        before = state(whole)
        for call in (whole.finish, lambda: whole.bring("a", ("t", 1), ("s", 2)), lambda: whole.bring("a", ("s", 2))):
            self.assertRaises(Trouble, call)
            self.assertEqual(state(whole), before)
        self.assertEqual(whole.bring("a", ("t", 1)), ((1,),))
        self.assertEqual(late.finish(), ((1,), (2,), (3,)))

        def strict(database):
            if len(database) > 2:
                raise Trouble
            return ()
        network = Network(strict, {"a": Database(("t", 1), ("t", 2)), "b": Database(("t", 3))})
        before = state(network)
        self.assertRaises(Trouble, network.finish)
        self.assertRaises(Trouble, network.bring, "a", ("t", 3))
        self.assertRaises(Trouble, network.bring, "b", ("t", 1), ("t", 2))
        self.assertEqual(state(network), before)
        self.assertEqual([network.bring("b", ("t", 1)), len(network)], [(), 2])

    def test_six_nodes_and_sixty_rows(self):
        parts = {name: Database(*[("t", 10 * at + number) for number in range(10)]) for at, name in enumerate("abcdef")}
        network = Network(SPLIT, parts)
        self.assertEqual([len(network), len(network.whole), network.names], [300, 60, tuple("abcdef")])
        self.assertEqual(network.finish(), tuple((number,) for number in range(60)))
        self.assertRaises(InvalidDatabase, Network, SPLIT, {**parts, "a": parts["a"].with_rows(("b",))})
        self.assertRaises(InvalidOperation, Network, SPLIT, {**parts, "g": Database()})
        self.assertRaises(InvalidOperation, Network, SPLIT, {**parts, "g": Database(("b",))})
        many = {name: parts["a"].with_rows(*parts["b"].rows, *parts["c"].rows) for name in "abcdef"}
        self.assertEqual(len(Network(SPLIT, many)), 0)

    def test_traps(self):
        source = random.Random(193)
        late = 0
        for _ in range(200):
            question = some_small_question(source, source.randrange(2))
            paper = early_paper(question)
            if paper[0] == "early":
                continue
            late += 1
            _, small, great, answer = paper
            for way in (question, nothing, lambda database: (answer,), lambda database: ((5,) * 3, answer), lambda database: ((5,) * 3,)):
                told = answer in way(small)
                found = trap(paper, way)
                expected = ("wrong", {"a": small, "b": great - small}) if told else ("missing", {"a": small})
                self.assertEqual(found, expected)
                network = Network(way, found[1])
                self.assertEqual(answer in network.shown, told)
                self.assertEqual(answer in question(network.whole), not told)
                self.assertEqual(answer in network.finish(), told)
        self.assertGreater(late, 50)
        self.assertEqual(list(trap(early_paper(EITHER), EITHER)[1]), ["a", "b"])

    def test_right_ways_are_those_of_early_questions(self):
        source = random.Random(194)
        for _ in range(150):
            question = some_small_question(source, source.randrange(2))
            paper = early_paper(question)
            if paper[0] == "late":
                word, parts = trap(paper, question)
                network = Network(question, parts)
                self.assertEqual(word, "wrong")
                self.assertNotEqual(network.finish(), question(network.whole))
            else:
                self.assertIs(is_early(question), True)
                network = Network(question, some_parts(source, question))
                self.assertEqual(network.finish(), question(network.whole))

    def test_object(self):
        one, same = Network(SPLIT, PARTS), Network(SPLIT, dict(reversed(PARTS.items())))
        others = [Network(ALONE, PARTS), Network(SPLIT, {"p": PARTS["p"], "r": PARTS["q"]}), Network(SPLIT, {"p": ROWS}),
                  Network(SPLIT, {"p": PARTS["q"], "q": PARTS["p"]})]
        moved = one.twin()
        moved.bring("q", ("t", 1))
        self.check_object(one, same, others + [moved])
        self.check_object(one, one.twin(), [])
        self.check_sealed(one, ("names", "whole", "shown", "waiting"))
        # Equal rows at each node, but by another part.
        two = {"a": Database(("t", 1)), "b": Database(("t", 1), ("t", 2))}
        full = Network(nothing, two)
        full.finish()
        self.assertNotEqual(full, Network(nothing, {"a": two["b"], "b": two["b"]}))
        # Equal rows, but other answers were shown.
        one, other = Network(ALONE, PARTS), Network(ALONE, PARTS)
        one.bring("q", ("t", 1))
        other.bring("q", ("t", 1))
        self.assertEqual(one, other)
        first, second = Network(ALONE, {"a": Database(("s", 1), ("t", 1)), "b": Database()}), Network(
            ALONE, {"a": Database(("s", 1), ("t", 1)), "b": Database()})
        for network, order in ((first, (("s", 1), ("t", 1))), (second, (("t", 1), ("s", 1)))):
            for row in order:
                network.bring("b", row)
        self.assertEqual([first.shown, second.shown, first == second], [(), ((1,),), False])

    def test_no_access_to_the_state(self):
        parts = dict(PARTS)
        network = Network(SPLIT, parts)
        parts["p"] = ROWS
        parts["r"] = ROWS
        self.assertEqual([network.names, network.at("p")], [("p", "q"), Database(("t", 1))])
        twin = network.twin()
        network.bring("p", ("s", 1))
        self.assertEqual([twin.at("p"), len(twin), len(network)], [Database(("t", 1)), 2, 1])
        found = trap(early_paper(ALONE), ALONE)
        found[1]["a"] = None
        self.assertEqual(trap(early_paper(ALONE), ALONE)[1]["a"], Database(("t", 0)))

    def test_errors(self):
        parts = (PARTS, wrong_for(lambda value: type(value) is dict and 1 <= len(value) <= 6 and all(
            looks_like_name(name) and isinstance(value[name], Database) for name in value)), InvalidOperation)
        self.check_errors(Network, (SPLIT, NO_WAYS, InvalidOperation), parts)
        for wrong in ({}, {"A": ROWS}, {1: ROWS}, {"a": None}, {"a": ROWS, "b": (ROWS,)}, {True: ROWS}, {("a",): ROWS}, {"abcdefghi": ROWS}):
            self.assert_error(InvalidOperation, Network, [SPLIT, wrong])
        great = Database(*[("t", number) for number in range(61)])
        self.assert_error(InvalidDatabase, Network, [SPLIT, {"a": great}])
        self.assert_error(InvalidOperation, Network, [None, {"a": great}])
        self.assert_error(InvalidOperation, Network, [SPLIT, {"a": great, "B": great}])
        network = Network(SPLIT, PARTS)
        before = state(network)
        names = ("p", wrong_for(lambda value: type(value) is str and value in ("p", "q")), UnknownName)
        for function in (network.at, network.shown_by, network.bring):
            self.check_errors(function, names)
            for name in names[1]:
                with self.assertRaises(UnknownName) as caught:
                    function(name)
                self.assertIs(caught.exception.name, name)
        self.check_errors(lambda name, row: network.twin().bring(name, row), names, (("s", 1), wrong_rows(), InvalidRow))
        for rows in ((("t", 1),), (("b",),), (("s", 1), ("s", 1)), (("s", 1), ("t", 1)), (("b",), ("s", 1))):
            self.assert_error(InvalidOperation, lambda *given: network.bring("p", *given), list(rows))
        self.assert_error(InvalidRow, lambda *given: network.bring("p", *given), [("t", 1), ("t", True)])
        self.assertEqual(state(network), before)

    def test_errors_of_traps(self):
        small, great = Database(("t", 1)), ROWS
        papers = (("late", small, great, (1,)), wrong_for(lambda value: type(value) is tuple and value[:1] == ("late",) and len(value) == 4),
                  InvalidOperation)
        self.check_errors(trap, papers, (ALONE, NO_WAYS, InvalidOperation))
        for wrong in (("late", great, small, (1,)), ("late", small, great, (True,)), ("late", small, great, [1]), ("early", small, great, (1,)),
                      ("late", small, great.rows, (1,)), ("late", small.rows, great, (1,)), ("late", small, great), ("late", small, great, (1,), 1),
                      ["late", small, great, (1,)], early_paper(SPLIT), ("late", None, None, ()), (True, small, great, (1,))):
            self.assert_error(InvalidOperation, trap, [wrong, nothing])
        self.assertEqual(trap(("late", small, small, (1, 2, 3, 4)), nothing), ("missing", {"a": small}))
        for value in PLAIN_VALUES:
            if not looks_like_integers(value):
                self.assert_error(InvalidOperation, trap, [("late", small, great, value), nothing])


if __name__ == "__main__":
    unittest.main()
