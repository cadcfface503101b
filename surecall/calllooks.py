"""Whether anything is a paper by which a call may have its form until one of the kinds named comes."""

from surecall.forms import is_form_for
from surecall.kinds import all_but
from surecall.looks import shows, told_by
from surecall.rows import numbered


def may_be_named(program, names):
    """Whether the kinds named are late, and with each one all that are below it are named."""
    if not all([name in program[1] for name in names]):
        return False
    return all([name in names for name, elder, deeds in program[0] if elder in names])


def shows_call(program, way, number, form, names, thing):
    """Whether anything is a paper that is taken with all kinds there but those named, and bears the call's form."""
    there = all_but(program, names)
    if not may_be_named(program, names) or not shows(program, way, there, thing):
        return False
    at, body, row = numbered(program)[number]
    return is_form_for(program, form, dict(told_by(program, way, there, thing))[number], row[4])
