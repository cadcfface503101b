"""What making tells, reckoned once more in another manner, on reckoned's own telling."""

import itertools

import reckoned


def told(program, way, there):
    """Of each call's number its kinds, by the way."""
    if way == "tree":
        return dict(reckoned.told_by_tree(program, there))
    if way == "made":
        return dict(reckoned.told_by_made(program, there))
    return dict(reckoned.told_by_flow(program, there, way == "apart"))


def asked(program, kind, deed):
    found = reckoned.answer(program, kind, deed)
    return 1 + list(reckoned.line(program, kind)).index(found)


def costs(kinds):
    """Of each kind in the order in which they are asked what it costs."""
    found = {kind: place + 1 for place, kind in enumerate(kinds)}
    found[kinds[-1]] = found[kinds[-2]]
    return found


def can_be_asked(program, kinds, deed):
    """Whether in some order none of the kinds is dearer, all orders gone through."""
    return any(
        all(cost <= asked(program, kind, deed) for kind, cost in costs(order).items())
        for order in itertools.permutations(kinds)
    )


def form(program, kinds, deed):
    answers = {reckoned.answer(program, kind, deed) for kind in kinds}
    if len(answers) == 1:
        return ("straight", answers.pop())
    if len(kinds) > 1 and can_be_asked(program, kinds, deed):
        order = sorted(sorted(kinds), key=lambda kind: asked(program, kind, deed))
        return ("asks", tuple((kind, reckoned.answer(program, kind, deed)) for kind in order))
    return ("plain",)


def keeps(program, deed, shape, kinds):
    """Whether a call with these kinds, no fewer than its own, may keep its form."""
    if shape[0] == "straight":
        return {reckoned.answer(program, kind, deed) for kind in kinds} == {shape[1]}
    return set(kinds) == {kind for kind, found in shape[1]}


def names(program, way, number, deed, shape):
    if shape == ("plain",):
        return ()
    there = set(reckoned.there_at_first(program))
    for name, elder, deeds in program[0]:
        if name in program[1] and (elder in there or elder is None):
            kinds = told(program, way, tuple(sorted(there | {name})))[number]
            if keeps(program, deed, shape, kinds):
                there.add(name)
    return tuple(name for name in reckoned.all_kinds(program) if name not in there)


def made(program, way):
    first = told(program, way, reckoned.there_at_first(program))
    found = []
    for number, (body, row) in enumerate(reckoned.rows_by_number(program)):
        if row[0] == "call":
            shape = form(program, first[number], row[4])
            found.append((number, shape, names(program, way, number, row[4], shape)))
    return tuple(found)


def cost(program, shape, kind, deed):
    if shape[0] == "straight":
        return 0
    if shape[0] == "asks":
        return costs([one for one, found in shape[1]])[kind]
    return asked(program, kind, deed)


def looks(program, shapes, log):
    """The made run's looks, by a log: of each call done what has come by then is found anew."""
    rows, many = reckoned.rows_by_number(program), 0
    for at, entry in enumerate(log):
        if entry[0] == "did":
            came = {other[1] for other in log[:at] if other[0] == "came"}
            shape, named = {number: one for number, *one in shapes}[entry[1]]
            many += cost(program, ("plain",) if came & set(named) else shape, entry[2], rows[entry[1]][1][4])
    return many
