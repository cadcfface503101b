"""Whether anything shows why a kind may stand at a call.

Anything may be handed in, so nothing is compared or looked up ahead of knowing that it is made
of tuples and texts alone: what else there is may not bear it.
"""

from surecall.kinds import is_below
from surecall.programs import are_texts, is_tuple
from surecall.rows import MAIN, numbered
from surecall.steps import come_to, given, holding, spot_of


def is_fact(thing):
    """Whether it has a fact's form; whether it is one of the program's is asked where it stands by a row."""
    if is_tuple(thing, 2, 2):
        return isinstance(thing[0], str) and are_texts(thing[1], 2, 2)
    if is_tuple(thing, 3, 3):
        return isinstance(thing[0], str) and are_texts(thing[1], 3, 4) and isinstance(thing[2], str)
    return False


def is_number(thing, most):
    """Whether it is a whole number of 0 to one below most."""
    return isinstance(thing, int) and not isinstance(thing, bool) and 0 <= thing < most


def stands(program, there, rows, known, step):
    """Whether anything is a step whose fact stands by its row, by what is known."""
    if not is_tuple(step, 2, 2) or not is_fact(step[0]):
        return False
    fact, number = step
    if number is None:
        return fact == come_to(MAIN)
    if not is_number(number, len(rows)):
        return False
    at, body, row = rows[number]
    return fact in [one for one, needs in given(program, there, body, row, known)]


def shows_why(program, there, number, kind, thing):
    """Whether anything is a tuple of steps, each behind what it needs, to the kind at the call."""
    if not isinstance(thing, tuple) or len(thing) == 0:
        return False
    rows = numbered(program)
    known = {}
    for step in thing:
        if not stands(program, there, rows, known, step):
            return False
        known[step[0]] = True
    at, body, row = rows[number]
    if thing[-1][0] != holding(spot_of(body, row[2]), kind) or come_to(body) not in known:
        return False
    return is_below(program, kind, row[3])
