"""The plain run: what answers a call is looked for when it is done."""

from surecall.runs import whole_run


def plain_run(program, choices, most):
    """The run by these choices, of at most so many rows: (log, looks, end)."""
    return whole_run(program, (), choices, most)
