"""What is made, turned back by kinds that come, and how many looks it saves."""

from surecall.forms import PLAIN, cost_by
from surecall.kinds import asked
from surecall.rows import numbered


def forms_of(made):
    """Of each call's number its form."""
    return {number: form for number, form, names in made}


def turned_back(made, came):
    """What is made, with all calls plain that name one of the kinds."""
    found = []
    for number, form, names in made:
        if any([name in came for name in names]):
            found.append((number, PLAIN, ()))
        else:
            found.append((number, form, names))
    return tuple(found)


def straight_calls(made):
    """The numbers of the calls that are straight, rising."""
    return tuple(sorted([number for number, form, names in made if form[0] == "straight"]))


def saved(program, made, log):
    """How many looks fewer than the plain run, whose log it is, the made one needs."""
    rows = numbered(program)
    left = made
    forms = forms_of(left)
    many = 0
    for entry in log:
        if entry[0] == "came":
            left = turned_back(left, (entry[1],))
            forms = forms_of(left)
        elif entry[0] == "did":
            word, number, kind, found = entry
            deed = rows[number][2][4]
            many += asked(program, kind, deed) - cost_by(program, forms[number], kind, deed)
    return many
