"""The kinds of a program: their elders, and which of them answers for a deed."""


def elders(program, kind):
    """The kind's elders, the farthest first, and itself last."""
    elder_of = {name: elder for name, elder, deeds in program[0]}
    line = [kind]
    while elder_of[line[-1]] is not None:
        line.append(elder_of[line[-1]])
    return tuple(line[::-1])


def is_below(program, one, other):
    """Whether one is the other kind, or has it among its elders."""
    return other in elders(program, one)


def all_below(program, kinds, other):
    """Those of the kinds that are below the other one, as they stand."""
    return [kind for kind in kinds if is_below(program, kind, other)]


def all_but(program, names):
    """All kinds but those named, rising; but the late ones they are those there at first."""
    return tuple(sorted([kind[0] for kind in program[0] if kind[0] not in names]))


def deed_of(program, kind, deed):
    """The deed as the kind itself has it, its elders left aside; None where it hasn't."""
    for name, elder, deeds in program[0]:
        if name == kind:
            for found in deeds:
                if found[0] == deed:
                    return found
    return None


def answer(program, kind, deed):
    """The kind itself, or its nearest elder, that has the deed; None where none has."""
    for name in reversed(elders(program, kind)):
        if deed_of(program, name, deed) is not None:
            return name
    return None


def asked(program, kind, deed):
    """How many kinds are asked for the deed, from the kind up to the answer, or to the last elder."""
    line = elders(program, kind)
    found = answer(program, kind, deed)
    if found is None:
        return len(line)
    return len(line) - line.index(found)
