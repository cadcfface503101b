"""Papers with a little more or less in them than they must have."""

import reckoned


def with_more(luck, one, way, least):
    """The paper with some more bodies, and kinds or holds."""
    names = reckoned.all_kinds(one)
    bodies = [body for body in reckoned.parts(one) if body != ("", "")]
    if way == "apart":
        bodies = [body + (name,) for body in bodies for name in names]
    some = luck.sample(bodies, min(len(bodies), luck.randrange(3)))
    if way == "made":
        return least[0] + tuple(some), least[1] + tuple(luck.sample(names, luck.randrange(2)))
    spots = [("in", name, "f") for name in names] + [("of",) + body + (word,) for body in bodies for word in ("own", "x", "y")]
    holds = tuple((spot, (luck.choice(names),)) for spot in luck.sample(spots, luck.randrange(4)))
    return least[0] + tuple(some), least[1] + holds


def with_less(way, thing):
    """The paper with one thing left out, each in its turn."""
    bodies, others = thing
    for at in range(len(bodies)):
        yield (bodies[:at] + bodies[at + 1:], others)
    for at in range(len(others)):
        yield (bodies, others[:at] + others[at + 1:])
        if way != "made":
            spot, kinds = others[at]
            for place in range(len(kinds)):
                if len(kinds) > 1:
                    yield (bodies, others[:at] + ((spot, kinds[:place] + kinds[place + 1:]),) + others[at + 1:])
