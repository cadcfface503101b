"""What flows, step by step: which facts stand by a row, and what each of them needs.

A fact is ("body", body), the body is come to, or ("holds", spot, kind). Those that are known
are the keys of a dict. A body is a pair, or, apart by own's kind, a triple: all bodies are as
main's is.
"""

from surecall.kinds import all_below, answer, deed_of
from surecall.programs import OWN
from surecall.rows import MAIN, numbered


def come_to(body):
    """The fact that the body is come to."""
    return ("body", body)


def holding(spot, kind):
    """The fact that the spot holds the kind."""
    return ("holds", spot, kind)


def spot_of(body, variable):
    """The spot of a body's variable."""
    return ("of",) + body + (variable,)


def held(program, known, spot):
    """The kinds that the spot holds by what is known."""
    return [name for name, elder, deeds in program[0] if holding(spot, name) in known]


def flown(program, known, spot, source):
    """Of each kind that the source holds: that the spot holds it, and what that needs."""
    return [(holding(spot, kind), (holding(source, kind),)) for kind in held(program, known, source)]


def needing(fact, facts):
    """The same facts, each one in need of one more."""
    return [(one, needs + (fact,)) for one, needs in facts]


def by_make(program, there, body, row, known):
    """What stands by a make."""
    word, x, kind = row
    if kind not in there:
        return []
    return [(holding(spot_of(body, x), kind), ())]


def by_copy(program, there, body, row, known):
    """What stands by a copy."""
    word, x, y = row
    return flown(program, known, spot_of(body, x), spot_of(body, y))


def by_put(program, there, body, row, known):
    """What stands by a put: the field is one for each kind, whichever thing it is of."""
    word, x, field, y = row
    found = []
    for kind in held(program, known, spot_of(body, x)):
        facts = flown(program, known, ("in", kind, field), spot_of(body, y))
        found.extend(needing(holding(spot_of(body, x), kind), facts))
    return found


def by_take(program, there, body, row, known):
    """What stands by a take."""
    word, x, y, field = row
    found = []
    for kind in held(program, known, spot_of(body, y)):
        facts = flown(program, known, spot_of(body, x), ("in", kind, field))
        found.extend(needing(holding(spot_of(body, y), kind), facts))
    return found


def by_answer(program, body, row, known, kind):
    """What stands by a call where y holds the kind, that need itself left aside.

    The answer's body is ahead of what its variables hold, so that it is so in every row of steps.
    """
    word, x, y, top, deed, args = row
    inner = (answer(program, kind, deed), deed, kind)[:len(body)]
    name, params, rows, gives = deed_of(program, inner[0], deed)
    found = [(come_to(inner), ()), (holding(spot_of(inner, OWN), kind), ())]
    for param, arg in zip(params, args):
        found.extend(flown(program, known, spot_of(inner, param), spot_of(body, arg)))
    if gives is not None:
        found.extend(flown(program, known, spot_of(body, x), spot_of(inner, gives)))
    return found


def by_call(program, there, body, row, known):
    """What stands by a call."""
    y = spot_of(body, row[2])
    found = []
    for kind in all_below(program, held(program, known, y), row[3]):
        found.extend(needing(holding(y, kind), by_answer(program, body, row, known, kind)))
    return found


GIVERS = {
    "make": by_make,
    "copy": by_copy,
    "put": by_put,
    "take": by_take,
    "call": by_call,
}


def given(program, there, body, row, known):
    """What stands by a row of the body, by what is known: pairs of a fact and the facts that it needs."""
    if come_to(body) not in known or row[0] not in GIVERS:
        return []
    giver = GIVERS[row[0]]
    return needing(come_to(body), giver(program, there, body, row, known))


def standing_for(program, main, body):
    """The bodies that stand for a body of the program: itself, or one of each kind that may be own's."""
    if len(main) == len(body):
        return [body]
    if body == MAIN:
        return [main]
    return [body + (name,) for name, elder, deeds in program[0]]


def all_rows(program, main):
    """All rows as (number, body, row), a row once of each body that stands for its own."""
    found = []
    for number, body, row in numbered(program):
        found.extend([(number, one, row) for one in standing_for(program, main, body)])
    return found


def all_steps(program, there, main):
    """All that flows from main, as (fact, number, needs), no fact twice, each behind those that it needs."""
    known = {come_to(main): True}
    found = [(come_to(main), None, ())]
    rows = all_rows(program, main)
    many = 0
    while many < len(found):
        many = len(found)
        for number, body, row in rows:
            facts = given(program, there, body, row, known)
            for fact, needs in facts:
                if fact not in known:
                    known[fact] = True
                    found.append((fact, number, needs))
    return tuple(found)
