"""The forms of a call: straight to one answer, asking a few kinds in order, or plain."""

from surecall.kinds import answer, asked

PLAIN = ("plain",)


def with_answers(program, kinds, deed):
    """The kinds, each with its answer for the deed, as they stand."""
    return tuple([(kind, answer(program, kind, deed)) for kind in kinds])


def place_cost(place, many):
    """What it costs to ask as far as a place, from 1, of so many; where no other fits the last goes unasked."""
    return min(place, many - 1)


def is_never_dearer(order):
    """Whether of kinds as (asked, kind) in their order none is dearer than by looking for its answer."""
    return all([place_cost(place, len(order)) <= looks for place, (looks, kind) in enumerate(order, start=1)])


def form_of(program, kinds, deed):
    """The form of a call of the deed at which these kinds may stand."""
    answers = sorted(set([found for kind, found in with_answers(program, kinds, deed)]))
    if len(answers) == 1:
        return ("straight", answers[0])
    order = sorted([(asked(program, kind, deed), kind) for kind in kinds])
    if len(order) == 0 or not is_never_dearer(order):
        return PLAIN
    return ("asks", with_answers(program, [kind for looks, kind in order], deed))


def is_form_for(program, form, kinds, deed):
    """Whether a call of the deed at which these kinds may stand may have the form; what it costs is left aside."""
    pairs = with_answers(program, kinds, deed)
    if form[0] == "straight":
        return len(pairs) > 0 and all([found == form[1] for kind, found in pairs])
    if form[0] == "asks":
        return len(form[1]) == len(pairs) and all([pair in form[1] for pair in pairs])
    return True


def found_by(program, form, kind, deed):
    """The kind's answer for the deed, found as the form says."""
    if form[0] == "straight":
        return form[1]
    if form[0] == "asks":
        return dict(form[1])[kind]
    return answer(program, kind, deed)


def cost_by(program, form, kind, deed):
    """How many looks it costs to find the kind's answer for the deed as the form says."""
    if form[0] == "straight":
        return 0
    if form[0] == "asks":
        order = [one for one, found in form[1]]
        return place_cost(1 + order.index(kind), len(order))
    return asked(program, kind, deed)
