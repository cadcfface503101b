"""How the rows of a program stand: its bodies in order, the rows within rows, and each row's number."""

MAIN = ("", "")
HOLDERS = ("either", "again")


def bodies(program):
    """All bodies as (body, rows), in the order in which their rows are numbered."""
    found = [(MAIN, program[2])]
    for name, elder, deeds in program[0]:
        for deed, params, rows, gives in deeds:
            found.append(((name, deed), rows))
    return tuple(found)


def rows_within(row):
    """The one or two tuples of rows that an either or again row holds; () of any other row."""
    if row[0] in HOLDERS:
        return row[1:]
    return ()


def lay(body, rows, found):
    """Put the rows, each ahead of those within it, behind what was found so far.

    Told are the rows as (number, row, inners), inners the rows within it, told likewise.
    """
    told = []
    for row in rows:
        number = len(found)
        found.append((number, body, row))
        told.append((number, row, tuple([lay(body, inner, found) for inner in rows_within(row)])))
    return tuple(told)


def numbered(program):
    """All rows as (number, body, row), rising."""
    found = []
    for body, rows in bodies(program):
        lay(body, rows, found)
    return tuple(found)


def laid(program):
    """Of each body its rows as (number, row, inners), inners those within, told likewise."""
    found = []
    return {body: lay(body, rows, found) for body, rows in bodies(program)}
