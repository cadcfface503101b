"""The made run: what answers a call is found as the call is made, until a kind comes that it names."""

from surecall.runs import whole_run


def made_run(program, made, choices, most):
    """The run of a made program by these choices, of at most so many rows: (log, looks, end)."""
    return whole_run(program, made, choices, most)
