"""Expressions and conditions that several tests use."""

X = ("name", "x")
Y = ("name", "y")
ONE = ("number", 1)
TRUE = ("true",)
FALSE = ("false",)

WORDS = (
    "true", "false", "add", "sub", "mul", "div", "mod", "min", "max", "abs",
    "if", "less", "equal", "not", "all", "any",
)

# Every place at which an expression stands in something else: in an expression, in a condition.
PLACES_OF_EXPRESSIONS = (
    ("expression", lambda e: ("add", e, ONE)),
    ("expression", lambda e: ("add", ONE, e)),
    ("expression", lambda e: ("sub", e, ONE)),
    ("expression", lambda e: ("sub", ONE, e)),
    ("expression", lambda e: ("mul", e, ONE)),
    ("expression", lambda e: ("mul", ONE, e)),
    ("expression", lambda e: ("div", e, 1)),
    ("expression", lambda e: ("mod", e, 1)),
    ("expression", lambda e: ("min", e, ONE)),
    ("expression", lambda e: ("min", ONE, e)),
    ("expression", lambda e: ("max", e, ONE)),
    ("expression", lambda e: ("max", ONE, e)),
    ("expression", lambda e: ("abs", e)),
    ("expression", lambda e: ("if", TRUE, e, ONE)),
    ("expression", lambda e: ("if", TRUE, ONE, e)),
    ("condition", lambda e: ("less", e, ONE)),
    ("condition", lambda e: ("less", ONE, e)),
    ("condition", lambda e: ("equal", e, ONE)),
    ("condition", lambda e: ("equal", ONE, e)),
)

# The same for every place at which a condition stands.
PLACES_OF_CONDITIONS = (
    ("expression", lambda c: ("if", c, ONE, ONE)),
    ("condition", lambda c: ("not", c)),
    ("condition", lambda c: ("all", (c,))),
    ("condition", lambda c: ("all", (c, TRUE, TRUE))),
    ("condition", lambda c: ("all", (TRUE, c, TRUE))),
    ("condition", lambda c: ("all", (TRUE, TRUE, c))),
    ("condition", lambda c: ("any", (c,))),
    ("condition", lambda c: ("any", (c, TRUE, TRUE))),
    ("condition", lambda c: ("any", (TRUE, c, TRUE))),
    ("condition", lambda c: ("any", (TRUE, TRUE, c))),
)


def places():
    """All places, as triples: the kind of the inner one, the kind of the outer one, the builder."""
    for outer, build in PLACES_OF_EXPRESSIONS:
        yield "expression", outer, build
    for outer, build in PLACES_OF_CONDITIONS:
        yield "condition", outer, build


def deep_expression(depth, leaf=X):
    """An expression of this depth, with a leaf of depth 1 at its bottom."""
    whole = leaf
    for _ in range(depth - 1):
        whole = ("abs", whole)
    return whole


def deep_condition(depth, leaf=TRUE):
    """A condition of this depth, with a leaf of depth 1 at its bottom."""
    whole = leaf
    for _ in range(depth - 1):
        whole = ("not", whole)
    return whole


def deep(kind, depth):
    """An expression or a condition of this depth."""
    return deep_expression(depth) if kind == "expression" else deep_condition(depth)


def tree(leaves):
    """An expression in which these leaves stand from left to right, as flat as may be."""
    row = list(leaves)
    while len(row) > 1:
        pairs = [("add", row[k], row[k + 1]) for k in range(0, len(row) - 1, 2)]
        row = pairs + row[len(row) - len(row) % 2:]
    return row[0]


# Valid expressions with their written forms.
WRITTEN_EXPRESSIONS = (
    (("number", 0), "0"),
    (("number", 7), "7"),
    (("number", 10), "10"),
    (("number", -1), "-1"),
    (("number", -205), "-205"),
    (("number", 10 ** 60 - 1), "9" * 60),
    (("number", 1 - 10 ** 60), "-" + "9" * 60),
    (("number", 10 ** 59), "1" + "0" * 59),
    (("name", "x"), "x"),
    (("name", "abcdefghijklmnopqrstuvwxyz"), "abcdefghijklmnopqrstuvwxyz"),
    (("name", "iff"), "iff"),
    (("name", "xmin"), "xmin"),
    (("name", "truefalse"), "truefalse"),
    (("name", "number"), "number"),
    (("name", "name"), "name"),
    (("add", X, ("number", 3)), "add(x, 3)"),
    (("sub", X, Y), "sub(x, y)"),
    (("mul", ("number", -2), Y), "mul(-2, y)"),
    (("div", X, 2), "div(x, 2)"),
    (("div", X, 10 ** 60 - 1), "div(x, " + "9" * 60 + ")"),
    (("mod", X, 1), "mod(x, 1)"),
    (("min", X, Y), "min(x, y)"),
    (("max", Y, X), "max(y, x)"),
    (("abs", ("number", -4)), "abs(-4)"),
    (("if", ("less", X, Y), X, Y), "if(less(x, y), x, y)"),
    (("if", ("all", ()), X, ("if", FALSE, Y, ONE)), "if(all(), x, if(false, y, 1))"),
    (("mod", ("div", ("add", X, Y), 3), 4), "mod(div(add(x, y), 3), 4)"),
    (("sub", ("sub", X, Y), ("sub", Y, X)), "sub(sub(x, y), sub(y, x))"),
)

# Valid conditions with their written forms.
WRITTEN_CONDITIONS = (
    (("true",), "true"),
    (("false",), "false"),
    (("less", X, ("number", 3)), "less(x, 3)"),
    (("equal", ("number", -3), Y), "equal(-3, y)"),
    (("not", ("equal", X, ("number", 0))), "not(equal(x, 0))"),
    (("all", ()), "all()"),
    (("any", ()), "any()"),
    (("all", (TRUE,)), "all(true)"),
    (("any", (FALSE,)), "any(false)"),
    (("all", (TRUE, ("less", X, ("number", 3)))), "all(true, less(x, 3))"),
    (("any", (("any", ()), ("all", ()), ("not", TRUE))), "any(any(), all(), not(true))"),
    (("less", ("if", TRUE, X, Y), ("div", X, 5)), "less(if(true, x, y), div(x, 5))"),
)
