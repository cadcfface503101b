"""What a program is, told of anything, and where its calls stand.

Anything may be handed to is_program, so nothing is compared or looked up ahead of knowing
that it is a text: what else there is may not bear it.
"""

from surecall.kinds import answer, deed_of
from surecall.rows import MAIN, bodies, numbered, rows_within

OWN = "own"
MOST_LETTERS = 8
MOST_KINDS = 12
MOST_DEEDS = 6
MOST_PARAMS = 4
MOST_LATE = 6
MOST_IN_ROWS = 20
MOST_ROWS = 80
MOST_NESTED = 4
NO_ROOM = -1

# Behind each row's first word, what its other parts are: a variable that is given something
# or one that is asked, a kind, a late kind, any word, args, rows.
PARTS = {
    "make": ("given", "kind"),
    "copy": ("given", "asked"),
    "put": ("asked", "word", "asked"),
    "take": ("given", "asked", "word"),
    "say": ("word",),
    "call": ("given", "asked", "kind", "word", "args"),
    "either": ("rows", "rows"),
    "again": ("rows",),
    "bring": ("late",),
}


def is_word(thing):
    """Whether it is a text of one to eight letters a to z."""
    if not isinstance(thing, str) or not 1 <= len(thing) <= MOST_LETTERS:
        return False
    return all(["a" <= letter <= "z" for letter in thing])


def is_tuple(thing, least, most):
    """Whether it is a tuple of least to most things."""
    return isinstance(thing, tuple) and least <= len(thing) <= most


def are_texts(thing, least, most):
    """Whether it is a tuple of least to most texts."""
    return is_tuple(thing, least, most) and all([isinstance(part, str) for part in thing])


def are_unlike(words):
    """Whether no word stands there twice."""
    return len(set(words)) == len(words)


def are_params(thing):
    """Whether it is a tuple of unlike words, own not among them."""
    if not is_tuple(thing, 0, MOST_PARAMS) or not all([is_word(word) for word in thing]):
        return False
    return OWN not in thing and are_unlike(thing)


def is_deed(thing):
    """Whether it is a deed, its rows left aside: these can be judged only when all kinds are known."""
    if not is_tuple(thing, 4, 4):
        return False
    deed, params, rows, gives = thing
    return is_word(deed) and are_params(params) and (gives is None or is_word(gives))


def are_deeds(thing):
    """Whether it is a tuple of deeds, their rows left aside, no name twice."""
    if not is_tuple(thing, 0, MOST_DEEDS) or not all([is_deed(deed) for deed in thing]):
        return False
    return are_unlike([deed[0] for deed in thing])


def is_kind(thing, ahead):
    """Whether it is a kind that may stand behind those named ahead, the rows of its deeds left aside."""
    if not is_tuple(thing, 3, 3):
        return False
    name, elder, deeds = thing
    if not is_word(name) or name in ahead:
        return False
    if elder is not None and (not is_word(elder) or elder not in ahead):
        return False
    return are_deeds(deeds)


def are_kinds(thing):
    """Whether it is a tuple of kinds, each elder ahead, the rows of their deeds left aside."""
    if not is_tuple(thing, 1, MOST_KINDS):
        return False
    ahead = []
    for kind in thing:
        if not is_kind(kind, ahead):
            return False
        ahead.append(kind[0])
    return True


def are_late(kinds, thing):
    """Whether it is the rising tuple of names of kinds, with each kind those under it."""
    if not is_tuple(thing, 0, MOST_LATE) or not all([is_word(name) for name in thing]):
        return False
    names = [kind[0] for kind in kinds]
    if not all([name in names for name in thing]) or list(thing) != sorted(set(thing)):
        return False
    return all([name in thing for name, elder, deeds in kinds if elder in thing])


def many_params(program, kind, deed):
    """How many params the kind's answer for the deed has; None where there is no answer."""
    found = answer(program, kind, deed)
    if found is None:
        return None
    return len(deed_of(program, found, deed)[1])


def deeds_agree(program):
    """Whether each deed that an elder has too has as many params there."""
    for name, elder, deeds in program[0]:
        if elder is not None:
            for deed in deeds:
                many = many_params(program, elder, deed[0])
                if many is not None and many != len(deed[1]):
                    return False
    return True


def part_fits(program, body, part, thing):
    """Whether it may stand in a row of the body as that part; rows within are judged one by one elsewhere."""
    if part == "rows":
        return is_tuple(thing, 0, MOST_IN_ROWS)
    if part == "args":
        return isinstance(thing, tuple) and all([part_fits(program, body, "asked", arg) for arg in thing])
    if not is_word(thing):
        return False
    if part == "given":
        return thing != OWN
    if part == "asked":
        return thing != OWN or body != MAIN
    if part == "kind":
        return thing in [kind[0] for kind in program[0]]
    if part == "late":
        return thing in program[1]
    return True


def is_row(program, body, thing):
    """Whether it is a row of the body, the rows within it left aside."""
    if not isinstance(thing, tuple) or len(thing) == 0:
        return False
    if not isinstance(thing[0], str) or thing[0] not in PARTS:
        return False
    parts = PARTS[thing[0]]
    if len(thing) != 1 + len(parts):
        return False
    if not all([part_fits(program, body, part, found) for part, found in zip(parts, thing[1:])]):
        return False
    return thing[0] != "call" or many_params(program, thing[3], thing[4]) == len(thing[5])


def room_behind(program, body, rows, room, nested):
    """How many more rows there may be behind these and those within; NO_ROOM where these may not be.

    The room shrinks row by row, so that rows that hold the same ones over and over end soon.
    """
    if not is_tuple(rows, 0, MOST_IN_ROWS):
        return NO_ROOM
    for row in rows:
        if room == 0 or not is_row(program, body, row):
            return NO_ROOM
        room -= 1
        for inner in rows_within(row):
            if nested == MOST_NESTED:
                return NO_ROOM
            room = room_behind(program, body, inner, room, nested + 1)
            if room == NO_ROOM:
                return NO_ROOM
    return room


def bodies_fit(program):
    """Whether the rows of all bodies are rows of the program, and few enough together."""
    room = MOST_ROWS
    for body, rows in bodies(program):
        room = room_behind(program, body, rows, room, 0)
        if room == NO_ROOM:
            return False
    return True


def is_program(thing):
    """Whether anything that is handed in is a program."""
    if not is_tuple(thing, 3, 3):
        return False
    kinds, late, rows = thing
    return are_kinds(kinds) and are_late(kinds, late) and deeds_agree(thing) and bodies_fit(thing)


def calls(program):
    """All call rows as (number, body, row), rising."""
    return tuple([entry for entry in numbered(program) if entry[2][0] == "call"])
