"""Rules, databases and licences that are put together by a seeded random source."""

from firmrows.ask.questions import Question, is_rule
from firmrows.base.databases import Database
from firmrows.future.licences import Licence

TABLES = (("a", 0), ("t", 1), ("s", 1), ("r", 2), ("u", 3), ("x", 1), ("y", 2))
NAMES = ("x", "y", "z", "w")


def some_row(random, most):
    name, many = random.choice(TABLES)
    return (name,) + tuple(random.randrange(most) for _ in range(many))


def some_database(random, most=3):
    return Database(*[some_row(random, most) for _ in range(random.choice((0, 5, 10, 20, 30)))])


def some_pattern(random, terms):
    name, many = random.choice(TABLES)
    return (name,) + tuple(random.choice(terms) for _ in range(many))


def some_rule(random, width, most=3):
    """A rule with a head of this width, over integers from 0 to most - 1, and -1."""
    terms = NAMES[:random.randrange(1, 5)] * 3 + tuple(range(most))
    while True:
        wanted = tuple(some_pattern(random, terms) for _ in range(random.choice((0, 1, 1, 2, 2, 3, 4))))
        blanks = tuple(sorted({term for pattern in wanted for term in pattern[1:] if isinstance(term, str)}))
        inner = blanks * 2 + tuple(range(-1, most))
        rule = (
            tuple(random.choice(inner) for _ in range(width)),
            wanted,
            tuple(some_pattern(random, inner) for _ in range(random.choice((0, 0, 1, 1, 2, 3)))),
            tuple((random.choice(inner), random.choice(inner)) for _ in range(random.choice((0, 0, 0, 1, 2, 4)))),
        )
        if is_rule(rule):
            return rule


def some_question(random, most=3):
    width = random.randrange(4)
    rules = tuple(some_rule(random, width, most) for _ in range(random.randrange(5)))
    return Question(*rules, width=width)


def some_licence(random, most=3):
    def part():
        return tuple(some_pattern(random, NAMES + tuple(range(most))) for _ in range(random.randrange(4)))
    return Licence(come=random.choice(("any", part(), part())), go=random.choice(("any", (), part())),
                   shut=part(), kept=part())
