"""The flow way: at a call may stand what flows to its variable; and the same apart by own's kind."""

from surecall.kinds import all_below
from surecall.programs import calls
from surecall.rows import MAIN
from surecall.steps import all_steps, spot_of

MAIN_APART = ("", "", "")


def paper_from(program, there, main):
    """(bodies, holds): the bodies come to, and each spot that holds something with its kinds."""
    facts = [step[0] for step in all_steps(program, there, main)]
    come = [fact[1] for fact in facts if fact[0] == "body"]
    held = {}
    for fact in facts:
        if fact[0] == "holds":
            held.setdefault(fact[1], []).append(fact[2])
    return (tuple(sorted(come)), tuple([(spot, tuple(sorted(held[spot]))) for spot in sorted(held)]))


def told_from(program, paper):
    """Of each call (number, kinds): what y holds below the call's in all bodies that stand for the call's."""
    come, holds = paper
    held = dict(holds)
    found = []
    for number, body, row in calls(program):
        kinds = []
        for one in come:
            if one[:2] == body:
                kinds.extend(all_below(program, held.get(spot_of(one, row[2]), ()), row[3]))
        found.append((number, tuple(sorted(set(kinds)))))
    return tuple(found)


def flow_paper(program, there):
    """(bodies, holds), by what flows."""
    return paper_from(program, there, MAIN)


def by_flow(program, there):
    """Of each call (number, kinds), by what flows."""
    return told_from(program, flow_paper(program, there))


def apart_paper(program, there):
    """(bodies, holds), by what flows apart by own's kind."""
    return paper_from(program, there, MAIN_APART)


def by_apart(program, there):
    """Of each call (number, kinds), by what flows apart by own's kind."""
    return told_from(program, apart_paper(program, there))
