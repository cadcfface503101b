"""Answers: a program's text with rows that ask something of it, a text for each."""

from surecall.errors import NoProgram, NoRow
from surecall.kinds import all_but
from surecall.maderun import made_run
from surecall.making import made
from surecall.papers import WAYS, told
from surecall.plainrun import plain_run
from surecall.texts import read_program

ASKED = "asked"
NONE = "-"
FIGURES = "0123456789"
MOST_FIGURES = 6


def is_number(word, most):
    """Whether it is a whole number written by at most so many figures, no 0 ahead."""
    if not 1 <= len(word) <= most or not all([sign in FIGURES for sign in word]):
        return False
    return len(word) == 1 or word[0] != "0"


def are_numbers(words):
    """Whether the words are a most, and behind it choices of one figure each."""
    if len(words) == 0 or not is_number(words[0], MOST_FIGURES):
        return False
    return all([is_number(word, 1) for word in words[1:]])


def asks_something(words):
    """Whether the words of a row are one that asks."""
    if words[0] == "run":
        return are_numbers(words[1:])
    if len(words) < 2 or words[1] not in WAYS:
        return False
    if words[0] == "saves":
        return are_numbers(words[2:])
    return words[0] in ("told", "made") and len(words) == 2


def listed(words, between):
    """The words in one, with that between them."""
    return between.join(words) if len(words) > 0 else NONE


def told_text(program, words):
    """Which kinds the way tells for each call with those there at first."""
    found = told(program, words[0], all_but(program, program[1]))
    return listed([f"{number}:" + listed(kinds, ",") for number, kinds in found], "; ")


def form_text(form):
    """The words of a call's form."""
    if form[0] == "straight":
        return f"straight {form[1]}"
    if form[0] == "asks":
        return "asks " + ",".join([kind for kind, answer in form[1]])
    return "plain"


def call_text(number, form, names):
    """The words of a call that is made."""
    until = " until " + ",".join(names) if len(names) > 0 else ""
    return f"{number}:{form_text(form)}{until}"


def made_text(program, words):
    """What each call is made by the way."""
    found = made(program, words[0])
    return listed([call_text(number, form, names) for number, form, names in found], "; ")


def run_text(program, words):
    """How the plain run ends, its looks, and what is said in it."""
    most, choices = read_numbers(words)
    log, looks, end = plain_run(program, choices, most)
    ending = end[0] if end[1] is None else f"{end[0]} {end[1]}"
    said = listed([entry[2] for entry in log if entry[0] == "say"], " ")
    return f"{ending}; looks {looks}; said {said}"


def saves_text(program, words):
    """The looks of the plain run and of the made one."""
    most, choices = read_numbers(words[1:])
    plain = plain_run(program, choices, most)
    other = made_run(program, made(program, words[0]), choices, most)
    return f"{plain[1]} {other[1]}"


def read_numbers(words):
    """The most and the choices that the words tell."""
    return (int(words[0]), tuple([int(word) for word in words[1:]]))


ANSWERERS = {
    "told": told_text,
    "made": made_text,
    "run": run_text,
    "saves": saves_text,
}


def answer_to(program, words):
    """The answer to a row that asks something."""
    answerer = ANSWERERS[words[0]]
    return answerer(program, words[1:])


def answers(text):
    """A text for each row behind the first one asked, of the program ahead of it."""
    rows = text.split("\n") if isinstance(text, str) else []
    if ASKED not in rows:
        raise NoProgram("no row says asked")
    at = rows.index(ASKED)
    program = read_program("\n".join(rows[:at]))
    asking = [row.split(" ") for row in rows[at + 1:]]
    for number, words in enumerate(asking):
        if not asks_something(words):
            raise NoRow(number)
    return tuple([answer_to(program, words) for words in asking])
