"""Rules, databases and licences that are put together by a seeded random source."""

from firmrows.ask.questions import Question, is_rule
from firmrows.base.databases import Database
from firmrows.future.licences import Licence

TABLES = (("a", 0), ("t", 1), ("s", 1), ("r", 2), ("u", 3), ("x", 1), ("y", 2))
NAMES = ("x", "y", "z", "w")


def some_row(random, most):
    name, many = random.choice(TABLES)
    return (name,) + tuple(random.randrange(most) for _ in range(many))


def some_database(random, most=3):
    return Database(*[some_row(random, most) for _ in range(random.choice((0, 5, 10, 20, 30)))])


def some_pattern(random, terms):
    name, many = random.choice(TABLES)
    return (name,) + tuple(random.choice(terms) for _ in range(many))


def some_rule(random, width, most=3):
    """A rule with a head of this width, over integers from 0 to most - 1, and -1."""
    terms = NAMES[:random.randrange(1, 5)] * 3 + tuple(range(most))
    while True:
        wanted = tuple(some_pattern(random, terms) for _ in range(random.choice((0, 1, 1, 2, 2, 3, 4))))
        blanks = tuple(sorted({term for pattern in wanted for term in pattern[1:] if isinstance(term, str)}))
        inner = blanks * 2 + tuple(range(-1, most))
        rule = (
            tuple(random.choice(inner) for _ in range(width)),
            wanted,
            tuple(some_pattern(random, inner) for _ in range(random.choice((0, 0, 1, 1, 2, 3)))),
            tuple((random.choice(inner), random.choice(inner)) for _ in range(random.choice((0, 0, 0, 1, 2, 4)))),
        )
        if is_rule(rule):
            return rule


def some_question(random, most=3):
    width = random.randrange(4)
    rules = tuple(some_rule(random, width, most) for _ in range(random.randrange(5)))
    return Question(*rules, width=width)


def some_licence(random, most=3):
    def part():
        return tuple(some_pattern(random, NAMES + tuple(range(most))) for _ in range(random.randrange(4)))
    return Licence(come=random.choice(("any", part(), part())), go=random.choice(("any", (), part())),
                   shut=part(), kept=part())


def split_rules(random, rule, terms, many):
    """Rules that together want less and less to be as it is: a pattern is wanted in one, and barred in the other."""
    if many == 0:
        return [rule]
    head, wanted, barred, unlike = rule
    pattern = some_pattern(random, terms)
    one, other = (head, wanted + (pattern,), barred, unlike), (head, wanted, barred + (pattern,), unlike)
    return [part for rule in (one, other) for part in split_rules(random, rule, terms, random.randrange(many))]


def split_question(random, width, most=2):
    """A question some answers of which stay, but not by one match alone."""
    rules = []
    while not 0 < len(rules) <= 8 or not all(is_rule(rule) for rule in rules):
        first = some_rule(random, width, most)
        blanks = tuple(sorted({term for pattern in first[1] for term in pattern[1:] if isinstance(term, str)}))
        rules = split_rules(random, first, blanks * 2 + tuple(range(most)), random.randrange(1, 4))
    random.shuffle(rules)
    if len(rules) > 2 and random.random() < 0.3:
        rules = rules[1:]
    return Question(*rules)


def growing_licence(random, most=2):
    """A licence by which many rows may come, and some may go."""
    def part(many):
        return tuple(some_pattern(random, NAMES[:2] + tuple(range(most))) for _ in range(random.randrange(many)))
    return Licence(come=random.choice(("any", "any", part(6))), go=random.choice(("any", (), part(3))),
                   shut=part(3), kept=part(3))


def some_answer(random, question, base, most=2):
    """Mostly an answer that the database has."""
    answers = question(base)
    if answers and random.random() < 0.7:
        return random.choice(answers)
    return tuple(random.randrange(most + 1) for _ in range(question.width))


def some_case(random):
    """A question of one to three rules (or of split ones), a database, a licence and an answer."""
    most, width = random.choice((1, 2, 2, 3)), random.randrange(3)
    if random.random() < 0.4:
        question = Question(*[some_rule(random, width, most) for _ in range(random.randrange(1, 4))])
    else:
        question = split_question(random, width, most)
    base = some_database(random, most)
    base = Database(*random.sample(base.rows, min(len(base), random.randrange(8))))
    licence = random.choice((some_licence, growing_licence))(random, most)
    return question, base, licence, some_answer(random, question, base, most)


def some_other_tree(random, tree, rows, leaves):
    """A case tree with something otherwise: a leaf, a row, a side, or a row that is asked in vain."""
    if tree[0] == "ask" and random.random() < 0.7:
        _, row, yes, no = tree
        other = [
            lambda: ("ask", row, some_other_tree(random, yes, rows, leaves), no),
            lambda: ("ask", row, yes, some_other_tree(random, no, rows, leaves)),
            lambda: ("ask", row, no, yes),
            lambda: ("ask", random.choice(rows), yes, no),
            lambda: random.choice((yes, no)),
        ]
        return random.choice(other)()
    return random.choice((
        ("ask", random.choice(rows), tree, tree), ("ask", random.choice(rows), tree, random.choice(leaves)),
        random.choice(leaves)))


def some_other_bars(random, tree, terms, leaves):
    """A bar tree with something otherwise: a leaf, a case left out, or a variable that is asked too."""
    if tree[0] == "is":
        _, name, cases, other = tree
        if cases and random.random() < 0.6:
            at = random.randrange(len(cases))
            if random.random() < 0.4:
                return ("is", name, cases[:at] + cases[at + 1:], other)
            case = (cases[at][0], some_other_bars(random, cases[at][1], terms, leaves))
            return ("is", name, cases[:at] + (case,) + cases[at + 1:], other)
        return ("is", name, cases, some_other_bars(random, other, terms, leaves))
    names = [term for term in terms if isinstance(term, str)]
    if names and random.random() < 0.6:
        name = random.choice(names)
        inner = random.sample([term for term in terms if term != name], random.randrange(min(4, len(terms))))
        return ("is", name, tuple((term, random.choice((tree, random.choice(leaves)))) for term in inner), tree)
    return random.choice(leaves)


def bar_leaves_of(rule):
    """All leaves of bar trees for a rule, and some whose indices do not exist."""
    _, wanted, barred, unlike = rule
    return ([("none",)] + [("pair", k) for k in range(len(unlike) + 1)] + [("stays", k) for k in range(len(barred) + 1)]
            + [("never", i) for i in range(len(wanted) + 1)]
            + [("both", i, k) for i in range(len(wanted) + 1) for k in range(len(barred) + 1)])


WIDE_TABLES = (("r", 2), ("r", 2), ("u", 3), ("t", 1))


def wide_pattern(random, terms):
    name, many = random.choice(WIDE_TABLES)
    return (name,) + tuple(random.choice(terms) for _ in range(many))


def some_bar_case(random):
    """A question of one rule with some variables, a small database, a licence of many patterns, and an answer."""
    while True:
        names = list(NAMES[:random.randrange(1, 4)])
        wanted = tuple(wide_pattern(random, names * 2 + [0, 1]) for _ in range(random.randrange(1, 4)))
        blanks = sorted({term for pattern in wanted for term in pattern[1:] if isinstance(term, str)})
        if blanks:
            break
    rule = (
        tuple(random.choice(blanks) for _ in range(random.randrange(2))), wanted,
        tuple(wide_pattern(random, blanks * 2 + [0, 1]) for _ in range(random.randrange(3))),
        tuple((random.choice(blanks + [0]), random.choice(blanks + [0, 1])) for _ in range(random.randrange(3))),
    )
    inner = ["x", "y"]
    licence = Licence(
        come=random.choice(("any", tuple(wide_pattern(random, inner * 2 + [0, 1]) for _ in range(random.randrange(5))))),
        shut=tuple(wide_pattern(random, inner * 2 + [0]) for _ in range(random.randrange(6))),
        go=random.choice(("any", (), (wide_pattern(random, inner),))),
        kept=tuple(wide_pattern(random, inner + [0]) for _ in range(random.randrange(2))))
    base = Database(*[wide_pattern(random, [0, 1, 2]) for _ in range(random.randrange(5))])
    return Question(rule), base, licence, tuple(random.randrange(3) for _ in rule[0])


def some_small_question(random, width):
    """A question for the comparison with others."""
    if random.random() < 0.4:
        return split_question(random, width)
    return Question(*[some_rule(random, width, 2) for _ in range(random.randrange(4))], width=width)


def some_variation(random, question):
    """A question that differs in a part or two."""
    rules = list(question.rules)
    for _ in range(random.randrange(1, 3)):
        if rules:
            at = random.randrange(len(rules))
            head, wanted, barred, unlike = rules[at]
            blanks = tuple(sorted({term for pattern in wanted for term in pattern[1:] if isinstance(term, str)}))
            rules[at] = random.choice((
                (head, wanted, barred[1:], unlike), (head, wanted, barred, unlike[1:]), None,
                (head, wanted + (some_pattern(random, blanks + (0, 1)),), barred, unlike)))
            rules = [rule for rule in rules if is_rule(rule)]
    return Question(*rules, width=question.width)


SHAPE_NUMBERS = (-10 ** 39, -3, -1, 0, 1, 2, 3, 4, 7, 10 ** 39)
SHAPE_TABLES = (("a", 0), ("t", 1), ("s", 1), ("t", 2), ("r", 2), ("r", 2), ("u", 3))


def shape_row(random, numbers):
    name, many = random.choice(SHAPE_TABLES)
    return (name,) + tuple(random.choice(numbers) for _ in range(many))


def some_shape(random, numbers, most=5, width=None):
    """A shape over some integers, whose head may have integers that stand in no row."""
    width = random.choice((0, 0, 1, 1, 2, 3)) if width is None else width
    rows = {shape_row(random, numbers) for _ in range(random.randrange(most + 1))}
    return (tuple(random.choice(numbers) for _ in range(width)), tuple(sorted(rows)))


def some_fixed(random, numbers):
    return tuple(sorted(random.sample(numbers, random.choice((0, 0, 1, 2)))))


def inner_shape(random, width, fixed, most=3, free=3):
    """A shape whose head has only fixed integers and those of its rows."""
    while True:
        numbers = list(fixed) + [number for number in range(10) if number not in fixed][:free]
        head, rows = some_shape(random, numbers, most, width)
        inner = {number for row in rows for number in row[1:]} | set(fixed)
        if set(head) <= inner:
            return (head, rows)


def early_question(random, width):
    """A question that often is early."""
    from firmrows.early.early import is_early
    while True:
        question = some_small_question(random, width)
        if random.random() < 0.3:
            question = Question(*[rule[:2] + ((),) + rule[3:] for rule in question.rules], width=width)
        if is_early(question):
            return question


LIVELY = tuple(Question(*rules) for rules in (
    [(("x",), (("t", "x"),), (("s", "x"),), ())],
    [(("x",), (("t", "x"),), (("s", "x"),), ()), (("x",), (("t", "x"), ("s", "x")), (), ())],
    [((), (), (("a",),), ()), ((), (), (("b",),), ())],
    [(("x", "y"), (("r", "x", "y"),), (("r", "y", "x"),), (("x", "y"),))],
    [(("x",), (("r", "x", "y"),), (("s", "y"),), ()), (("x",), (("r", "x", "y"), ("t", "y")), (), ())],
    [(("x",), (("r", "x", "y"), ("r", "y", "x")), (), (("x", "y"),)), ((0,), (), (("t", 0),), ())],
    [((1,), (("t", 1),), (), ()), ((1,), (("a",),), (("t", 1), ("s", 1)), ())],
    [((), (("t", "x"), ("t", "y")), (), (("x", "y"),)), ((), (("t", "x"),), (("s", "x"),), ())],
))


def lively_question(random):
    """A question that has some answers in databases of a few rows."""
    return random.choice(LIVELY) if random.random() < 0.7 else split_question(random, random.randrange(2))


def asked_row(random, question, most=2):
    """A row of a table that the question asks for."""
    tables = sorted({(pattern[0], len(pattern) - 1) for rule in question.rules for pattern in rule[1] + rule[2]}) or [("a", 0)]
    name, many = random.choice(tables)
    return (name,) + tuple(random.randrange(most) for _ in range(many))


def asked_pattern(random, question):
    """A pattern of a table that the question asks for."""
    row = asked_row(random, question)
    return row[:1] + tuple(random.choice((term, "x", "y")) for term in row[1:])


def asked_licence(random, question):
    def part(most):
        return tuple(asked_pattern(random, question) for _ in range(random.randrange(most)))
    return Licence(come=random.choice(("any", "any", part(4))), go=random.choice(("any", (), part(3))), shut=part(2), kept=part(2))


def asked_database(random, question, many):
    return Database(*[asked_row(random, question) for _ in range(random.randrange(many + 1))])


def deep_rule(random):
    """A rule that bars rows of which there are many, so that many rows are open."""
    names = NAMES[:random.randrange(2, 5)]
    wanted = tuple(("t", name) for name in names)
    if random.random() < 0.4:
        wanted = tuple(("r", one, other) for one, other in zip(names, names[1:] + names[:1]))
    barred = tuple(random.choice((
        ("s", random.choice(names)), ("r", random.choice(names), random.choice(names)), ("q", random.choice(names), random.choice(names)),
        ("u", random.choice(names), random.choice(names), random.choice(names)))) for _ in range(random.randrange(1, 4)))
    pairs = [(random.choice(names), random.choice(names + (0,))) for _ in range(random.randrange(3))]
    return ((), wanted, barred, tuple(pair for pair in pairs if pair[0] != pair[1]))


def deep_question(random):
    """A question whose case trees ask for many rows."""
    rules = []
    for _ in range(random.randrange(1, 4)):
        rule = deep_rule(random)
        head, wanted, barred, unlike = rule
        if random.random() < 0.5 and len(wanted) < 4:
            rules.append((head, wanted + barred[:1], barred[1:], unlike))
        rules.append(rule)
    if random.random() < 0.3:
        rules.append(((), (("t", 0), ("t", 1)), (), ()))
    return Question(*rules)
