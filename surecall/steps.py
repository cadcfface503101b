"""What flows, step by step: which facts stand by a row, and what each of them needs.

A fact is ("body", body), the body is come to, or ("holds", spot, kind). Those that are known
are the keys of a dict.
"""

from surecall.kinds import answer, deed_of, is_below
from surecall.programs import OWN
from surecall.rows import MAIN, numbered


def come_to(body):
    """The fact that the body is come to."""
    return ("body", body)


def holding(spot, kind):
    """The fact that the spot holds the kind."""
    return ("holds", spot, kind)


def spot_of(body, variable):
    """The spot of a body's variable."""
    return ("of", body[0], body[1], variable)


def held(program, known, spot):
    """The kinds that the spot holds by what is known."""
    return [name for name, elder, deeds in program[0] if holding(spot, name) in known]


def flown(program, known, spot, source):
    """Of each kind that the source holds: that the spot holds it, and what that needs."""
    return [(holding(spot, kind), (holding(source, kind),)) for kind in held(program, known, source)]


def needing(fact, facts):
    """The same facts, each one in need of one more."""
    return [(one, needs + (fact,)) for one, needs in facts]


def by_make(program, there, body, row, known):
    """What stands by a make."""
    word, x, kind = row
    if kind not in there:
        return []
    return [(holding(spot_of(body, x), kind), ())]


def by_copy(program, there, body, row, known):
    """What stands by a copy."""
    word, x, y = row
    return flown(program, known, spot_of(body, x), spot_of(body, y))


def by_put(program, there, body, row, known):
    """What stands by a put: the field is one for each kind, whichever thing it is of."""
    word, x, field, y = row
    found = []
    for kind in held(program, known, spot_of(body, x)):
        facts = flown(program, known, ("in", kind, field), spot_of(body, y))
        found.extend(needing(holding(spot_of(body, x), kind), facts))
    return found


def by_take(program, there, body, row, known):
    """What stands by a take."""
    word, x, y, field = row
    found = []
    for kind in held(program, known, spot_of(body, y)):
        facts = flown(program, known, spot_of(body, x), ("in", kind, field))
        found.extend(needing(holding(spot_of(body, y), kind), facts))
    return found


def by_answer(program, body, row, known, kind):
    """What stands by a call where y holds the kind, that need itself left aside.

    The answer's body is ahead of what its variables hold, so that it is so in every row of steps.
    """
    word, x, y, top, deed, args = row
    inner = (answer(program, kind, deed), deed)
    name, params, rows, gives = deed_of(program, inner[0], deed)
    found = [(come_to(inner), ()), (holding(spot_of(inner, OWN), kind), ())]
    for param, arg in zip(params, args):
        found.extend(flown(program, known, spot_of(inner, param), spot_of(body, arg)))
    if gives is not None:
        found.extend(flown(program, known, spot_of(body, x), spot_of(inner, gives)))
    return found


def by_call(program, there, body, row, known):
    """What stands by a call."""
    y = spot_of(body, row[2])
    found = []
    for kind in held(program, known, y):
        if is_below(program, kind, row[3]):
            found.extend(needing(holding(y, kind), by_answer(program, body, row, known, kind)))
    return found


GIVERS = {
    "make": by_make,
    "copy": by_copy,
    "put": by_put,
    "take": by_take,
    "call": by_call,
}


def given(program, there, body, row, known):
    """What stands by a row of the body, by what is known: pairs of a fact and the facts that it needs."""
    if come_to(body) not in known or row[0] not in GIVERS:
        return []
    giver = GIVERS[row[0]]
    return needing(come_to(body), giver(program, there, body, row, known))


def all_steps(program, there):
    """All that flows, as (fact, number, needs), no fact twice, each behind those that it needs."""
    known = {come_to(MAIN): True}
    found = [(come_to(MAIN), None, ())]
    rows = numbered(program)
    many = 0
    while many < len(found):
        many = len(found)
        for number, body, row in rows:
            facts = given(program, there, body, row, known)
            for fact, needs in facts:
                if fact not in known:
                    known[fact] = True
                    found.append((fact, number, needs))
    return tuple(found)
