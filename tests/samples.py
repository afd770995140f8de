"""Values of every kind, and what the tests of errors share.

The predicates here are written from the document by themselves, not from the package,
so that a test can sort the values into right and wrong ones.
"""

import re
import unittest
from itertools import combinations

from firmrows.ask.matches import matches
from firmrows.ask.questions import Question, make_rule
from firmrows.base.databases import Database
from firmrows.compare.frozen import frozen_rules
from firmrows.compare.needless import parts_of
from firmrows.compare.within import within_paper
from firmrows.early.early import early_paper
from firmrows.early.least import least_set
from firmrows.early.shapes import findings
from firmrows.errors import InvalidAnswer, InvalidDatabase, InvalidLicence, InvalidNumber, InvalidQuestion
from firmrows.future.licences import Licence
from firmrows.live.caches import Cache
from firmrows.live.edits import edit_paper, frozen_pairs, gain_paper, loss_paper
from firmrows.live.engines import Engine
from firmrows.live.networks import Network, trap
from firmrows.live.stores import Store
from firmrows.papers.counts import share
from firmrows.papers.firm import firm_paper
from firmrows.papers.out import out_paper, statuses
from firmrows.text.shell import Shell

EITHER = Question(make_rule((), barred=(("a",),)), make_rule((), barred=(("b",),)))
ALONE = Question(make_rule(("x",), ("t", "x"), barred=(("s", "x"),)))
SPLIT = ALONE | Question(make_rule(("x",), ("t", "x"), ("s", "x")))
ROWS = Database(("t", 1), ("t", 2), ("s", 2))
GROWING = Licence(come="any")

HUGE = 10 ** 40 - 1


def nested(kind, many):
    """A list, tuple or dict, nested as deep as that."""
    value = 1
    for _ in range(many):
        value = {"x": value} if kind is dict else kind([value])
    return value


PLAIN_VALUES = [
    None, True, False, 0, 1, -1, 2, 3, 4, 9, HUGE, -HUGE,
    "", " ", "a", "x", "any", "match", "ask", "abcdefgh", "abcdefghi", "A", "aB", "a1", "a b", "a_", "_", "a\n", "1",
]

TUPLES = [
    (), (1,), (1, 2), (1, 2, 3), (1, 2, 3, 4), (True,), (False, 1), (None,), ("",), ((),), ([],), ({},),
    ("a",), ("r",), ("abcdefgh",), ("abcdefghi",), ("A",), ("r1",), ("r\n",), ("r ",), ("any",),
    ("r", 0), ("r", -1), ("r", HUGE, -HUGE), ("r", 1, 2, 3), ("r", 1, 2, 3, 4), ("r", True), ("r", False, 1),
    ("r", 1, True), ("r", 1, 2, False), ("r", None), ("r", "x"), ("r", "x", 1), ("r", "x", "y", "x"),
    ("r", "x", "y", "z", "a"), ("r", "X"), ("r", ""), ("r", "x", "abcdefghi"), ("r", (1,)), ("r", [1]), ("r", {}),
    (1, "r"), (True, 1), (None, 1), (("r",), 1), (["r"], 1), ("r", "x", True), ("r", "1"),
    (("r", 1),), (("r", "x"), ("r", 1)), (("r", True),), ("any", "any"), (("r", 1), 1), (("r", 1), None),
    ("ask", ("r", 1), ("match", 0, ()), ("match", 0, ())), ("match", 0, (1,)), ("match", True, ()),
    ((), (), (), ()), (("x",), (("t", "x"),), (), ()), (("x",), (), (), ()), ((), (), ()), [(), (), (), ()],
    ((), ()), ((1,), ()), ((1,), (("t", 1), ("t", 2))), ((1,), (("t", 2), ("t", 1))), ((True,), ()), ((), (("t", True),)),
    (((), ()), ((), ())), (((), ()), ((1,), (("t", 1),))), ("put", ("r", 1)), ("take", ("r", "x")), ("put", ("r", True)),
    ("put", None), ("take",), ("put", ("r",), 1), ["put", ("r", 1)], ("kept", ()), ("lost", None), ("no loss", ()),
]

OTHERS = [
    [], [1], ["r"], ["r", 1], ["r", "x"], [("r", 1)], [[]], [None, True],
    {}, {"x": 1}, {1: 2}, {"r": 1}, {True: 1}, {1: True}, {"x": True}, {"x": "y"}, {None: 1}, {("x",): 1}, {"X": 1},
    {0: "r", 1: 1}, {"x": None}, {1: None}, {"x": 1, 1: 1}, {"x": 1, "": 2}, {"x": 1, "abcdefghi": 2},
    nested(list, 100), nested(tuple, 100), nested(dict, 100), [("r", [(1, {"x": [None]})])], ("r", nested(tuple, 98)),
]


def package_values():
    """Values of this package, new ones at each call, since some of them are generators."""
    return [
        Database(), ROWS, Database(("a",)), Question(), Question(width=2), ALONE, EITHER, Licence(), GROWING,
        matches(SPLIT, ROWS), next(matches(SPLIT, ROWS)), ROWS.fitting(("t", "x")), ROWS.rows, ROWS.tables,
        ALONE.rules, make_rule(("x",), ("t", "x")), GROWING.sealed(("s", "x")).shut, (ROWS,), [ALONE],
        ("r", ROWS), {"x": ROWS}, {1: ALONE}, (GROWING, 1), firm_paper(SPLIT, ROWS, GROWING, (1,)),
        firm_paper(ALONE, ROWS, GROWING, (1,)), out_paper(ALONE, ROWS, GROWING, (2,)), out_paper(ALONE, ROWS, GROWING, (3,)),
        statuses(SPLIT, ROWS, GROWING), share(SPLIT, ROWS, GROWING, (1,)), frozen_rules(ALONE), within_paper(SPLIT, ALONE),
        parts_of(ALONE), early_paper(SPLIT), early_paper(ALONE), least_set(SPLIT), findings(((5,), (("t", 5),)), ROWS, (2,)),
        frozen_pairs(ALONE, ("s", "x")), loss_paper(SPLIT, ("s", "x")), gain_paper(SPLIT, ("s", "x")), loss_paper(ALONE, ("s", "x")),
        edit_paper(ALONE, ("put", ("s", 2)), (1,)), edit_paper(ALONE, ("put", ("s", 1)), (1,)), Cache(ALONE), Engine(ALONE, GROWING),
        Network(ALONE, {"a": ROWS}), trap(early_paper(ALONE), ALONE), Store(), Shell(),
    ]


def every_value():
    """Values of all kinds that the document lists."""
    return PLAIN_VALUES + TUPLES + OTHERS + package_values()


def is_plain_integer(value):
    return type(value) is int


def looks_like_name(value):
    return type(value) is str and re.fullmatch("[a-z]{1,8}", value) is not None


def looks_like_term(value):
    return is_plain_integer(value) or looks_like_name(value)


def looks_like_row(value):
    return (type(value) is tuple and len(value) in (1, 2, 3, 4) and looks_like_name(value[0])
            and all(is_plain_integer(part) for part in value[1:]))


def looks_like_pattern(value):
    return (type(value) is tuple and len(value) in (1, 2, 3, 4) and looks_like_name(value[0])
            and all(looks_like_term(part) for part in value[1:]))


def looks_like_exchange(value):
    return type(value) is dict and all(is_plain_integer(key) and is_plain_integer(value[key]) for key in value)


def looks_like_integers(value):
    return type(value) is tuple and all(is_plain_integer(part) for part in value)


def looks_ascending(values):
    return all(one < other for one, other in zip(values, values[1:]))


def looks_like_shape(value):
    return (type(value) is tuple and len(value) == 2 and looks_like_integers(value[0]) and len(value[0]) < 4
            and type(value[1]) is tuple and len(value[1]) < 13 and all(looks_like_row(row) for row in value[1])
            and looks_ascending(value[1]))


def looks_like_fixed(value):
    return looks_like_integers(value) and looks_ascending(value)


def looks_like_shapes(value):
    return (type(value) is tuple and all(looks_like_shape(shape) for shape in value)
            and len({len(shape[0]) for shape in value}) < 2)


def looks_like_edit(value):
    return (type(value) is tuple and len(value) == 2 and type(value[0]) is str and value[0] in ("put", "take")
            and looks_like_pattern(value[1]))


def wrong_for(is_right):
    """All values of every kind for which the predicate does not hold."""
    return [value for value in every_value() if not is_right(value)]


def wrong_rows():
    return wrong_for(looks_like_row)


def wrong_patterns():
    return wrong_for(looks_like_pattern)


def wrong_objects(kind):
    return wrong_for(lambda value: isinstance(value, kind))


def wrong_answers(width):
    return wrong_for(lambda value: looks_like_integers(value) and len(value) == width)


def wrong_indices(many):
    return wrong_for(lambda value: is_plain_integer(value) and 0 <= value < many)


def wrong_bindings(names):
    """Values that are no dict from exactly these names to integers."""
    near = [{name: 1 for name in names[1:]}, {**{name: 1 for name in names}, "other": 1}]
    near = near + [{**{name: 1 for name in names}, names[0]: bad} for bad in (True, None, "x", (1,))] if names else near
    return [value for value in every_value() + near if not (
        type(value) is dict and sorted(map(repr, value)) == sorted(map(repr, names))
        and all(is_plain_integer(value[key]) for key in value))]


# What `check_errors` needs for the parameters that most functions of papers have.
CASE = (
    (SPLIT, wrong_objects(Question), InvalidQuestion), (ROWS, wrong_objects(Database), InvalidDatabase),
    (GROWING, wrong_objects(Licence), InvalidLicence), ((1,), wrong_answers(1), InvalidAnswer),
)


class ErrorTests(unittest.TestCase):
    """Tests with a check of the errors of a call."""

    def assert_error(self, error, call, arguments, wrong=None):
        """The call raises an error of exactly this class, which keeps the wrong number."""
        with self.assertRaises(error) as caught:
            call(*arguments)
        self.assertIs(type(caught.exception), error)
        if error is InvalidNumber:
            self.assertIs(caught.exception.value, wrong)

    def check_errors(self, call, *parameters):
        """Each parameter is (right value, wrong values, error), in the order of the checks."""
        rights = [right for right, _, _ in parameters]
        call(*rights)
        for place, (_, wrongs, error) in enumerate(parameters):
            self.assertGreater(len(wrongs), 50)
            for wrong in wrongs:
                arguments = rights[:place] + [wrong] + rights[place + 1:]
                with self.subTest(place=place, wrong=str(wrong)[:80]):
                    self.assert_error(error, call, arguments, wrong)
        for many in range(2, len(parameters) + 1):
            for places in combinations(range(len(parameters)), many):
                for shift in (0, 17, 41):
                    arguments = list(rights)
                    for place in places:
                        wrongs = parameters[place][1]
                        arguments[place] = wrongs[shift % len(wrongs)]
                    first = places[0]
                    with self.subTest(places=places, shift=shift):
                        self.assert_error(parameters[first][2], call, arguments, arguments[first])

    def check_lazy(self, make, error, arguments, wrong=None):
        """The generator is made without an error, which comes with the first result."""
        generator = make(*arguments)
        self.assertEqual(iter(generator), generator)
        self.assert_error(error, next, [generator], wrong)


class ObjectTests(ErrorTests):
    """Tests of what holds for all objects of the package."""

    def check_object(self, one, same, others):
        """What [0.2] and [0.5] say of an object, an equal one and different ones."""
        self.assertIs(one == same, True)
        self.assertIs(one != same, False)
        for value in others + [value for value in every_value() if type(value) is not type(one)]:
            with self.subTest(value=str(value)[:80]):
                self.assertIs(one == value, False)
                self.assertIs(one != value, True)
                self.assertIs(value == one, False)
        self.assertRaises(TypeError, iter, one)
        self.assertRaises(TypeError, list, one)

    def check_sealed(self, one, names):
        """The properties of an object cannot be assigned."""
        for name in names:
            with self.subTest(name=name), self.assertRaises(AttributeError):
                setattr(one, name, getattr(one, name))
