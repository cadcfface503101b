"""Why a kind may stand at a call: the steps from makes to it."""

from surecall.kinds import is_below
from surecall.rows import MAIN, numbered
from surecall.steps import all_steps, come_to, holding, spot_of


def needed(steps, goals):
    """Those of the steps that the goals need, and the goals' own, as they stand."""
    wanted = set(goals)
    found = []
    for fact, number, needs in reversed(steps):
        if fact in wanted:
            found.append((fact, number))
            for need in needs:
                wanted.add(need)
    return tuple(found[::-1])


def why(program, there, number, kind):
    """Steps to the kind at the call, the last one y's spot with it; None where the flow way doesn't tell it."""
    at, body, row = numbered(program)[number]
    goal = holding(spot_of(body, row[2]), kind)
    steps = all_steps(program, there, MAIN)
    if goal not in [step[0] for step in steps] or not is_below(program, kind, row[3]):
        return None
    return needed(steps, (goal, come_to(body)))
