"""Things of all kinds to hand in where anything may be, and ways to put them in the place of a part."""


class Unkind:
    """A thing that bears no comparison, no look-up, no truth and no length."""

    def refuse(self, *others):
        raise RuntimeError("asked of a thing that doesn't bear it")

    __eq__ = __ne__ = __lt__ = __le__ = __gt__ = __ge__ = refuse
    __hash__ = __bool__ = __len__ = __iter__ = __contains__ = __getitem__ = __index__ = refuse


def nest(wrap, inmost, deep):
    thing = inmost
    for depth in range(deep):
        thing = wrap(thing)
    return thing


def plain_things():
    return [
        True, False, 0, 1, -1, 3, 10 ** 30, 1.5, float("nan"),
        "", "A", "toolongaword", "two words", "a\n", "\u00e4", "\ud800", "0",
        b"", b"a", b"own", bytearray(b"a"),
        [], ["a"], [[]], {}, {"a": 1}, {1: ()}, set(), {"a"}, frozenset(("a",)),
        object(), Unkind(), len, str, Unkind, range(3), iter(()), NotImplemented, ...,
    ]


def nested_things():
    wraps = (
        lambda thing: (thing,),
        lambda thing: [thing],
        lambda thing: {"a": thing},
        lambda thing: (thing, thing, thing),
        lambda thing: ("again", (thing,)),
        lambda thing: ("either", (thing,), (thing,)),
        lambda thing: ("a", None, (thing,)),
    )
    # None of the inmost ones is a part of a program by itself.
    return [nest(wrap, inmost, deep) for wrap in wraps for inmost in (0, None, [], {}, set()) for deep in (2, 3, 29, 59)]


def strange_tuples():
    """Tuples with one thing at least that has no place in a program."""
    inmost = plain_things()
    ahead = [(one, thing) for one in ("a", None, "own", ()) for thing in inmost]
    return ahead + [thing[::-1] for thing in ahead] + [(thing, thing, thing) for thing in inmost]


def paths(thing, here=()):
    """The places of all parts of a thing, itself among them."""
    found = [here]
    if isinstance(thing, tuple):
        for at, part in enumerate(thing):
            found += paths(part, here + (at,))
    return found


def replaced(thing, path, part):
    if path == ():
        return part
    at = path[0]
    return thing[:at] + (replaced(thing[at], path[1:], part),) + thing[at + 1:]


def part_at(thing, path):
    for at in path:
        thing = thing[at]
    return thing
