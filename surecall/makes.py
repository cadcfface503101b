"""The made way: at a call may stand what is made in any body that is come to."""

from surecall.kinds import all_below, answer
from surecall.rows import MAIN, numbered
from surecall.trees import told_among


def kinds_by(there, row):
    """The kinds made by a row."""
    return [row[2]] if row[0] == "make" and row[2] in there else []


def bodies_by(program, kinds, row):
    """The bodies come to by a row, where these kinds are made."""
    if row[0] != "call":
        return []
    return [(answer(program, kind, row[4]), row[4]) for kind in all_below(program, kinds, row[3])]


def made_paper(program, there):
    """(bodies, kinds): the bodies come to and the kinds made, as few as can be."""
    come = {MAIN: True}
    kinds = {}
    rows = numbered(program)
    many = 0
    while many < len(come) + len(kinds):
        many = len(come) + len(kinds)
        for number, body, row in rows:
            if body in come:
                kinds.update({kind: True for kind in kinds_by(there, row)})
                come.update({one: True for one in bodies_by(program, list(kinds), row)})
    return (tuple(sorted(come)), tuple(sorted(kinds)))


def by_made(program, there):
    """Of each call (number, kinds), by what is made."""
    come, kinds = made_paper(program, there)
    return told_among(program, come, kinds)
