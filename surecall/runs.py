"""Runs: rows are done one by one, and what answers a call is found as its form says.

Rows to be done wait in a list, the next one last, so that calls within calls need no calls
within calls of Python's own.
"""

from surecall.forms import PLAIN, cost_by, found_by
from surecall.kinds import deed_of, elders, is_below
from surecall.programs import OWN
from surecall.rows import MAIN, laid
from surecall.savings import forms_of, turned_back

MOST_UNDER_WAY = 40
MOST_TIMES = 9
BACK = "back"


class Thing:
    """What a make makes: a kind, and what the fields hold."""

    def __init__(self, kind):
        self.kind = kind
        self.fields = {}


class Due:
    """A row to be done: its number, the row, the rows within it, and its body's variables."""

    def __init__(self, number, row, inners, names):
        self.number = number
        self.row = row
        self.inners = inners
        self.names = names


class Run:
    """A run under way; made is (number, form, names) of the calls, those left out being plain."""

    def __init__(self, program, made, choices):
        self.program = program
        self.made = made
        self.forms = forms_of(made)
        self.bodies = laid(program)
        self.choices = choices
        self.many_read = 0
        self.many_done = 0
        self.under_way = 0
        self.here = [name for name, elder, deeds in program[0] if name not in program[1]]
        self.todo = []
        self.log = []
        self.looks = 0


def add_due(run, rows, names):
    """Let the rows, with these variables, be done ahead of all that waits."""
    for number, row, inners in reversed(rows):
        run.todo.append(Due(number, row, inners, names))


def next_choice(run):
    """The next one of the choices, 0 behind the last."""
    at = run.many_read
    run.many_read += 1
    return run.choices[at] if at < len(run.choices) else 0


def do_make(run, due):
    """A new thing, of a kind that is there."""
    word, x, kind = due.row
    if kind not in run.here:
        return "absent"
    due.names[x] = Thing(kind)
    return None


def do_copy(run, due):
    """What one variable holds, in another."""
    word, x, y = due.row
    due.names[x] = due.names.get(y)
    return None


def do_put(run, due):
    """What a variable holds, in a thing's field."""
    word, x, field, y = due.row
    thing = due.names.get(x)
    if thing is None:
        return "nothing"
    thing.fields[field] = due.names.get(y)
    return None


def do_take(run, due):
    """What a thing's field holds, in a variable."""
    word, x, y, field = due.row
    thing = due.names.get(y)
    if thing is None:
        return "nothing"
    due.names[x] = thing.fields.get(field)
    return None


def do_say(run, due):
    """A word is told."""
    run.log.append(("say", due.number, due.row[1]))
    return None


def do_either(run, due):
    """The first rows by a choice of 0, else the others."""
    rows, others = due.inners
    add_due(run, rows if next_choice(run) == 0 else others, due.names)
    return None


def do_again(run, due):
    """The rows as often as the choice says; it is read here, once, ahead of all turns."""
    times = min(next_choice(run), MOST_TIMES)
    for turn in range(times):
        add_due(run, due.inners[0], due.names)
    return None


def do_bring(run, due):
    """A kind comes, behind those of its elders that are not there yet."""
    line = elders(run.program, due.row[1])
    for name in line:
        if name not in run.here:
            run.here.append(name)
            run.log.append(("came", name))
            run.made = turned_back(run.made, (name,))
    run.forms = forms_of(run.made)
    return None


def do_call(run, due):
    """A call, where nothing bars it; what is due first is asked first."""
    word, x, y, kind, deed, args = due.row
    thing = due.names.get(y)
    if thing is None:
        return "nothing"
    if not is_below(run.program, thing.kind, kind):
        return "unfit"
    if run.under_way >= MOST_UNDER_WAY:
        return "deep"
    start_call(run, due, thing)
    return None


def start_call(run, due, thing):
    """Let the answer's body be done with variables of its own, and then x hold what it gives."""
    word, x, y, kind, deed, args = due.row
    form = run.forms.get(due.number, PLAIN)
    found = found_by(run.program, form, thing.kind, deed)
    name, params, rows, gives = deed_of(run.program, found, deed)
    names = {param: due.names.get(arg) for param, arg in zip(params, args)}
    names[OWN] = thing
    run.log.append(("did", due.number, thing.kind, found))
    run.looks += cost_by(run.program, form, thing.kind, deed)
    run.under_way += 1
    run.todo.append(Due(None, (BACK, x, gives, names), (), due.names))
    add_due(run, run.bodies[(found, deed)], names)


def end_call(run, due):
    """Behind the rows of a call's body: x holds what gives does there, nothing of None."""
    word, x, gives, names = due.row
    due.names[x] = None if gives is None else names.get(gives)
    run.under_way -= 1


DOERS = {
    "make": do_make,
    "copy": do_copy,
    "put": do_put,
    "take": do_take,
    "say": do_say,
    "either": do_either,
    "again": do_again,
    "bring": do_bring,
    "call": do_call,
}


def do_row(run, due, most):
    """Do a row; told is by which word the run ends at it, None where it goes on."""
    if run.many_done >= most:
        return "long"
    run.many_done += 1
    doer = DOERS[due.row[0]]
    return doer(run, due)


def run_on(run, most):
    """Do all that waits; told is how it ends."""
    while run.todo:
        due = run.todo.pop()
        if due.row[0] == BACK:
            end_call(run, due)
        else:
            ending = do_row(run, due, most)
            if ending is not None:
                return (ending, due.number)
    return ("done", None)


def whole_run(program, made, choices, most):
    """The run of what is made by these choices, of at most so many rows: (log, looks, end)."""
    run = Run(program, made, choices)
    add_due(run, run.bodies[MAIN], {})
    end = run_on(run, most)
    return (tuple(run.log), run.looks, end)
