"""Small programs with a call and a kind for which there is just one row of steps, up to its order."""

from samples import deed, kind, program

MAIN = ("body", ("", ""))


def main_holds(variable, name):
    return ("holds", ("of", "", "", variable), name)


def holds(body, variable, name):
    return ("holds", ("of",) + body + (variable,), name)


def field_holds(name, field, one):
    return ("holds", ("in", name, field), one)


def call(y, top, word="be", args=(), x="none"):
    return ("call", x, y, top, word, args)


# Each: what it shows, kinds, main's rows, the call's number, the kind, the steps.
CASES = (
    (
        "make",
        (kind("a", None, (deed("be"),)),),
        (("make", "x", "a"), call("x", "a")),
        1, "a",
        ((MAIN, None), (main_holds("x", "a"), 0)),
    ),
    (
        "make of a kind below",
        (kind("a", None, (deed("be"),)), kind("b", "a"), kind("c", "b")),
        (("make", "x", "c"), call("x", "b")),
        1, "c",
        ((MAIN, None), (main_holds("x", "c"), 0)),
    ),
    (
        "copy",
        (kind("a", None, (deed("be"),)), kind("b", None, ())),
        (("make", "y", "a"), ("make", "x", "b"), ("copy", "x", "y"), call("x", "a")),
        3, "a",
        ((MAIN, None), (main_holds("y", "a"), 0), (main_holds("x", "a"), 2)),
    ),
    (
        "put and take",
        (kind("a", None, ()), kind("b", None, (deed("be"),))),
        (("make", "x", "a"), ("make", "y", "b"), ("put", "x", "f", "y"), ("take", "z", "x", "f"), call("z", "b")),
        4, "b",
        (
            (MAIN, None), (main_holds("x", "a"), 0), (main_holds("y", "b"), 1), (field_holds("a", "f", "b"), 2),
            (main_holds("z", "b"), 3),
        ),
    ),
    (
        "put by one variable, take by another one of the same kind",
        (kind("a", None, ()), kind("b", None, (deed("be"),))),
        (
            ("make", "w", "a"), ("make", "x", "a"), ("make", "y", "b"), ("put", "x", "f", "y"), ("take", "z", "w", "f"),
            call("z", "b"),
        ),
        5, "b",
        (
            (MAIN, None), (main_holds("w", "a"), 0), (main_holds("x", "a"), 1), (main_holds("y", "b"), 2),
            (field_holds("a", "f", "b"), 3), (main_holds("z", "b"), 4),
        ),
    ),
    (
        "own",
        (kind("a", None, (deed("do", (), (call("own", "a"),)), deed("be"))), kind("b", "a")),
        (("make", "x", "b"), call("x", "a", "do")),
        2, "b",
        (
            (MAIN, None), (main_holds("x", "b"), 0), (("body", ("a", "do")), 1), (holds(("a", "do"), "own", "b"), 1),
        ),
    ),
    (
        "params",
        (kind("a", None, (deed("do", ("p", "q"), (call("q", "b"),)),)), kind("b", None, (deed("be"),))),
        (("make", "x", "a"), ("make", "y", "b"), call("x", "a", "do", ("x", "y"))),
        3, "b",
        (
            (MAIN, None), (main_holds("x", "a"), 0), (main_holds("y", "b"), 1), (("body", ("a", "do")), 2),
            (holds(("a", "do"), "q", "b"), 2),
        ),
    ),
    (
        "gives of a variable",
        (kind("a", None, (deed("do", (), (("make", "r", "b"),), "r"),)), kind("b", None, (deed("be"),))),
        (("make", "x", "a"), call("x", "a", "do", (), "z"), call("z", "b")),
        2, "b",
        (
            (MAIN, None), (main_holds("x", "a"), 0), (("body", ("a", "do")), 1), (holds(("a", "do"), "r", "b"), 3),
            (main_holds("z", "b"), 1),
        ),
    ),
    (
        "gives of own",
        (kind("a", None, (deed("do", (), (), "own"), deed("be"))),),
        (("make", "x", "a"), call("x", "a", "do", (), "z"), call("z", "a")),
        2, "a",
        ((MAIN, None), (main_holds("x", "a"), 0), (holds(("a", "do"), "own", "a"), 1), (main_holds("z", "a"), 1)),
    ),
    (
        "gives of a param",
        (kind("a", None, (deed("do", ("p",), (), "p"),)), kind("b", None, (deed("be"),))),
        (("make", "x", "a"), ("make", "y", "b"), call("x", "a", "do", ("y",), "z"), call("z", "b")),
        3, "b",
        (
            (MAIN, None), (main_holds("x", "a"), 0), (main_holds("y", "b"), 1), (holds(("a", "do"), "p", "b"), 2),
            (main_holds("z", "b"), 2),
        ),
    ),
    (
        "own as an arg, put into a field of own, taken in another body",
        (
            kind("a", None, (
                deed("do", (), (call("own", "a", "set", ("own",)), call("own", "a", "get"))),
                deed("set", ("p",), (("put", "own", "f", "p"),)),
                deed("get", (), (("take", "r", "own", "f"), call("r", "a"))),
                deed("be"),
            )),
        ),
        (("make", "x", "a"), call("x", "a", "do")),
        6, "a",
        (
            (MAIN, None), (main_holds("x", "a"), 0), (("body", ("a", "do")), 1), (holds(("a", "do"), "own", "a"), 1),
            (("body", ("a", "set")), 2), (holds(("a", "set"), "own", "a"), 2), (holds(("a", "set"), "p", "a"), 2),
            (field_holds("a", "f", "a"), 4),
            (("body", ("a", "get")), 3), (holds(("a", "get"), "own", "a"), 3), (holds(("a", "get"), "r", "a"), 5),
        ),
    ),
    (
        "rows within either and again",
        (kind("a", None, (deed("be"),)),),
        (("either", (("say", "hm"),), (("again", (("make", "x", "a"), call("x", "a"))),)),),
        4, "a",
        ((MAIN, None), (main_holds("x", "a"), 3)),
    ),
    (
        "a deed that answers for itself by another kind's body",
        (
            kind("a", None, (deed("do", ("p",), (), "p"), deed("be"))),
            kind("b", "a", (deed("do", ("q",), (call("x", "a"),), "own"),)),
        ),
        (("make", "x", "a"), ("make", "y", "b"), call("y", "a", "do", ("x",), "z"), call("z", "b")),
        3, "b",
        ((MAIN, None), (main_holds("y", "b"), 1), (holds(("b", "do"), "own", "b"), 2), (main_holds("z", "b"), 2)),
    ),
)


def whole(case):
    """The case's program."""
    return program(case[1], (), case[2])


def there(case):
    return tuple(sorted(name for name, elder, deeds in case[1]))
