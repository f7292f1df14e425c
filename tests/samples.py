"""Programs, and makings of them, for several tests."""

MOST = 1000000
GO = ("go", 1)
NO_WORDS = ()

# One statement of each kind; the do is that of a word side, which takes no numbers.
EACH_STATEMENT = (
    ("go", 1), ("turn", 1), ("up",), ("down",), ("ink", 1), ("mark", 1), ("back", 1),
    ("again", 1, ()), ("if", 1, (), ()), ("do", "side", ()),
)

# A program in which each statement and each form of amount stands somewhere.
SAMPLE = (
    (
        ("side", 2, (("go", (2, "n0", -3)), ("turn", (1, "n1", 0)))),
        ("all", 4, (
            ("do", "side", ((1, "n2", 0), (1, "n3", 0))),
            ("again", (1, "n0", 1), (("ink", (3, "count", 1)), ("up",), ("down",))),
        )),
        ("none", 0, ()),
    ),
    (
        ("mark", 3),
        ("again", 8, (
            ("do", "side", (5, (2, "count", 5))),
            ("if", (1, "count", -3), (("back", 3),), (("do", "none", ()),)),
        )),
        ("do", "all", (1, 2, 3, -4)),
        ("go", -7),
        ("turn", 2),
        ("ink", 0),
    ),
)


def nested(kinds, core=()):
    """A body with agains and ifs one within another, the first of kinds outermost."""
    body = core
    for kind in reversed(kinds):
        if kind == "again":
            body = (("again", 1, body),)
        elif kind == "if":
            body = (("if", 1, body, ()),)
        else:
            body = (("if", 1, (), body),)
    return body


def with_amount(amount):
    """A statement of each kind that takes an amount."""
    return (
        ("go", amount), ("turn", amount), ("ink", amount),
        ("again", amount, ()), ("if", amount, (), ()),
    )
