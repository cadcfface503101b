"""The tree way: at a call may stand whatever is there and below the call's kind."""

from surecall.kinds import all_below
from surecall.programs import calls
from surecall.rows import MAIN, bodies


def told_among(program, come, kinds):
    """Of each call (number, those of the kinds below the call's), () where its body is none of those come to."""
    found = []
    for number, body, row in calls(program):
        told = all_below(program, kinds, row[3]) if body in come else []
        found.append((number, tuple(told)))
    return tuple(found)


def by_tree(program, there):
    """Of each call (number, kinds), by the tree."""
    come = [body for body, rows in bodies(program) if body == MAIN or body[0] in there]
    return told_among(program, come, there)
