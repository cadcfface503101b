"""Whether anything is a paper that is taken, and what one that is taken tells.

Anything may be handed in, so nothing is compared or looked up ahead of knowing that it is made
of tuples and texts alone: what else there is may not bear it.
"""

from surecall.flows import MAIN_APART, told_from
from surecall.makes import bodies_by, kinds_by
from surecall.programs import are_texts, is_tuple, is_word
from surecall.rows import MAIN, bodies, numbered
from surecall.steps import all_rows, come_to, given, holding, standing_for
from surecall.trees import by_tree, told_among


def is_rising(things):
    """Whether the things, texts or tuples of texts, rise."""
    return list(things) == sorted(set(things))


def are_kinds_of(program, thing):
    """Whether it is a rising tuple of the program's kinds, there or not."""
    names = [kind[0] for kind in program[0]]
    return are_texts(thing, 0, len(names)) and all([name in names for name in thing]) and is_rising(thing)


def all_places(program, main):
    """All bodies that may stand in a paper whose main body is this one."""
    found = []
    for body, rows in bodies(program):
        found.extend(standing_for(program, main, body))
    return found


def are_bodies_of(places, thing):
    """Whether it is a rising tuple of these bodies."""
    if not isinstance(thing, tuple) or not all([are_texts(body, 2, 3) for body in thing]):
        return False
    return all([body in places for body in thing]) and is_rising(thing)


def is_spot(program, places, thing):
    """Whether it is a spot of one of these bodies, or of a kind's field."""
    if not are_texts(thing, 3, 5) or not is_word(thing[-1]):
        return False
    if thing[0] == "in":
        return len(thing) == 3 and thing[1] in [kind[0] for kind in program[0]]
    return thing[0] == "of" and thing[1:-1] in places


def is_hold(program, places, thing):
    """Whether it is a spot with one kind at least."""
    if not is_tuple(thing, 2, 2) or not is_spot(program, places, thing[0]):
        return False
    return are_kinds_of(program, thing[1]) and len(thing[1]) > 0


def are_holds(program, places, thing):
    """Whether it is a tuple of spots with their kinds, the spots rising."""
    if not isinstance(thing, tuple) or not all([is_hold(program, places, hold) for hold in thing]):
        return False
    return is_rising([hold[0] for hold in thing])


def is_made_closed(program, there, come, kinds):
    """Whether all that is come to and made by these bodies and kinds is among them."""
    if MAIN not in come:
        return False
    for number, body, row in numbered(program):
        if body in come:
            if not all([kind in kinds for kind in kinds_by(there, row)]):
                return False
            if not all([one in come for one in bodies_by(program, kinds, row)]):
                return False
    return True


def is_flow_closed(program, there, main, come, holds):
    """Whether all that flows by these bodies and holds is among them."""
    known = {come_to(body): True for body in come}
    for spot, kinds in holds:
        known.update({holding(spot, kind): True for kind in kinds})
    if come_to(main) not in known:
        return False
    for number, body, row in all_rows(program, main):
        if not all([fact in known for fact, needs in given(program, there, body, row, known)]):
            return False
    return True


def shows_made(program, there, thing):
    """Whether it is a paper of the made way that is taken."""
    if not is_tuple(thing, 2, 2):
        return False
    if not are_bodies_of(all_places(program, MAIN), thing[0]) or not are_kinds_of(program, thing[1]):
        return False
    return is_made_closed(program, there, thing[0], thing[1])


def shows_flow(program, there, main, thing):
    """Whether it is a paper of the flow way that is taken, or, by main, of the apart way."""
    if not is_tuple(thing, 2, 2):
        return False
    places = all_places(program, main)
    if not are_bodies_of(places, thing[0]) or not are_holds(program, places, thing[1]):
        return False
    return is_flow_closed(program, there, main, thing[0], thing[1])


def shows(program, way, there, thing):
    """Whether anything is a paper of the way that is taken: of its form, and closed."""
    if way == "tree":
        return is_tuple(thing, 0, 0)
    if way == "made":
        return shows_made(program, there, thing)
    return shows_flow(program, there, MAIN if way == "flow" else MAIN_APART, thing)


def told_by(program, way, there, paper):
    """Of each call (number, kinds), by what stands in a paper that is taken."""
    if way == "tree":
        return by_tree(program, there)
    if way == "made":
        return told_among(program, paper[0], paper[1])
    return told_from(program, paper)
