"""Making a program: the form of each call, and the late kinds at whose coming it is turned back."""

from surecall.forms import PLAIN, form_of, is_form_for
from surecall.kinds import all_but
from surecall.papers import paper, told
from surecall.programs import calls


class Teller:
    """What a way tells of a program, kept: many calls ask it of the same kinds there."""

    def __init__(self, program, way):
        self.program = program
        self.way = way
        self.known = {}


def kinds_at(teller, there, number):
    """The kinds that the way tells for the call."""
    if there not in teller.known:
        teller.known[there] = dict(told(teller.program, teller.way, there))
    return teller.known[there][number]


def names_of(teller, number, deed, form):
    """The late kinds that the call's paper names: those with which it can't be known to keep its form."""
    program = teller.program
    if form == PLAIN:
        return ()
    there = all_but(program, program[1])
    for name, elder, deeds in program[0]:
        if name in program[1] and (elder is None or elder in there):
            more = tuple(sorted(there + (name,)))
            if is_form_for(program, form, kinds_at(teller, more, number), deed):
                there = more
    return all_but(program, there)


def made_call(teller, number, deed):
    """(number, form, names) of the call."""
    program = teller.program
    form = form_of(program, kinds_at(teller, all_but(program, program[1]), number), deed)
    return (number, form, names_of(teller, number, deed, form))


def made(program, way):
    """Of each call (number, form, names), by the way."""
    teller = Teller(program, way)
    return tuple([made_call(teller, number, row[4]) for number, body, row in calls(program)])


def call_paper(program, way, number):
    """The way's paper with all kinds there but those that the call's paper names."""
    names = {at: named for at, form, named in made(program, way)}
    return paper(program, way, all_but(program, names[number]))
