"""Programs that the tests share, and small ways to build others."""


def deed(name, params=(), rows=(), gives=None):
    return (name, params, rows, gives)


def kind(name, elder=None, deeds=()):
    return (name, elder, deeds)


def program(kinds=(("a", None, ()),), late=(), rows=()):
    return (kinds, late, rows)


def in_main(*rows):
    """A program whose main has these rows; kind a has deed do with one param, b is late."""
    kinds = (kind("a", None, (deed("do", ("p",)),)), kind("b"))
    return program(kinds, ("b",), rows)


def in_deed(*rows):
    """A program one of whose deeds has these rows; kind a has deed do with one param, b is late."""
    kinds = (kind("a", None, (deed("do", ("p",), rows),)), kind("b"))
    return program(kinds, ("b",), ())


SAY = ("say", "hi")


def says(many):
    return (SAY,) * many


# Every row that there is, rows within rows, late kinds, own in each place where it may stand.
RICH = (
    (
        ("base", None, (
            ("greet", ("p", "q"), (
                ("put", "own", "field", "own"),
                ("put", "p", "own", "q"),
                ("take", "r", "own", "field"),
                ("copy", "s", "own"),
                ("call", "t", "own", "base", "greet", ("own", "s")),
            ), "own"),
            ("rest", (), (), None),
        )),
        ("left", "base", (
            ("greet", ("u", "v"), (
                ("again", (
                    ("call", "w", "u", "base", "rest", ()),
                    ("either", (("call", "w", "v", "left", "rest", ()),), (("again", ()),)),
                )),
                ("make", "x", "lone"),
            ), "u"),
        )),
        ("right", "base", ()),
        ("lone", None, ()),
        ("leaf", "left", (("only", ("u",), (("bring", "newer"),), "nowhere"),)),
        ("new", "right", (("rest", (), (("say", "own"),), "own"),)),
        ("newer", "new", ()),
    ),
    ("new", "newer"),
    (
        ("make", "x", "leaf"),
        ("copy", "y", "x"),
        ("either", (
            ("call", "z", "y", "base", "greet", ("x", "unset")),
            ("again", (("either", (("again", (("call", "z", "y", "leaf", "only", ("x",)),)),), ()),)),
        ), (
            ("bring", "new"),
            ("make", "x", "newer"),
        )),
        ("put", "x", "field", "y"),
        ("take", "z", "y", "own"),
        ("say", "bye"),
        ("call", "z", "x", "newer", "rest", ()),
    ),
)
