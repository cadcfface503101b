"""Programs as texts: written, and read again as they were."""

from surecall.errors import NoProgram
from surecall.programs import MOST_NESTED, PARTS, is_program


def shown_row(row):
    """The text's rows of a row."""
    if row[0] == "either":
        return ["either"] + shown_rows(row[1]) + ["or"] + shown_rows(row[2]) + ["end"]
    if row[0] == "again":
        return ["again"] + shown_rows(row[1]) + ["end"]
    words = row[:5] + row[5] if row[0] == "call" else row
    return [" ".join(words)]


def shown_rows(rows):
    """The text's rows of rows."""
    found = []
    for row in rows:
        found.extend(shown_row(row))
    return found


def shown_deed(deed):
    """The text's rows of a deed."""
    name, params, rows, gives = deed
    last = "gives" if gives is None else f"gives {gives}"
    return [" ".join(("deed", name) + params)] + shown_rows(rows) + [last]


def shown_kind(kind, late):
    """The text's rows of a kind."""
    name, elder, deeds = kind
    first = f"kind {name}" if elder is None else f"kind {name} under {elder}"
    found = [f"late {first}" if name in late else first]
    for deed in deeds:
        found.extend(shown_deed(deed))
    return found


def show_program(program):
    """The program's text."""
    kinds, late, rows = program
    found = []
    for kind in kinds:
        found.extend(shown_kind(kind, late))
    return "\n".join(found + ["main"] + shown_rows(rows))


class Reader:
    """The rows of a text, each as its words, and how many of them are read."""

    def __init__(self, rows):
        self.rows = rows
        self.at = 0


def ahead(reader):
    """The words of the row to be read next; none behind the last row."""
    return reader.rows[reader.at] if reader.at < len(reader.rows) else []


def read_next(reader):
    """The words of the next row, which is read by that."""
    words = ahead(reader)
    reader.at += 1
    return words


def read_word(reader, word):
    """Read a row that must be the word alone."""
    if read_next(reader) != [word]:
        raise NoProgram(f"row {reader.at} is not {word}")


def read_row(reader, nested):
    """A row, with those within it; whether its words are a row of a program is judged when all is read."""
    words = read_next(reader)
    if words == ["either"]:
        rows = read_rows(reader, nested + 1)
        read_word(reader, "or")
        others = read_rows(reader, nested + 1)
        read_word(reader, "end")
        return ("either", rows, others)
    if words == ["again"]:
        rows = read_rows(reader, nested + 1)
        read_word(reader, "end")
        return ("again", rows)
    if words[0] == "call":
        return tuple(words[:5]) + (tuple(words[5:]),)
    return tuple(words)


def read_rows(reader, nested):
    """All rows up to one that does nothing; a text may nest deeper than Python's own calls can follow."""
    if nested > MOST_NESTED:
        raise NoProgram(f"row {reader.at} stands within too many others")
    found = []
    while ahead(reader) and ahead(reader)[0] in PARTS:
        found.append(read_row(reader, nested))
    return tuple(found)


def read_deed(reader):
    """A deed, from its first row to what it gives."""
    words = read_next(reader)
    rows = read_rows(reader, 0)
    last = read_next(reader)
    if len(words) < 2 or last[:1] != ["gives"] or len(last) > 2:
        raise NoProgram(f"the deed that ends at row {reader.at} is not told as one")
    return (words[1], tuple(words[2:]), rows, last[1] if len(last) == 2 else None)


def read_deeds(reader):
    """All deeds behind a kind's row."""
    found = []
    while ahead(reader)[:1] == ["deed"]:
        found.append(read_deed(reader))
    return tuple(found)


def read_kind(reader):
    """(name, elder, whether it is late), by a kind's row."""
    words = read_next(reader)
    is_late = words[0] == "late"
    told = words[1:] if is_late else words
    if told[:1] != ["kind"] or len(told) not in (2, 4) or told[2:3] not in ([], ["under"]):
        raise NoProgram(f"row {reader.at} tells no kind")
    return (told[1], told[3] if len(told) == 4 else None, is_late)


def read_whole(reader):
    """The parts of a program, whether or not they are one together."""
    kinds = []
    late = []
    while ahead(reader)[:1] in (["kind"], ["late"]):
        name, elder, is_late = read_kind(reader)
        kinds.append((name, elder, read_deeds(reader)))
        if is_late:
            late.append(name)
    read_word(reader, "main")
    rows = read_rows(reader, 0)
    if ahead(reader):
        raise NoProgram(f"row {reader.at + 1} is none of main's")
    return (tuple(kinds), tuple(sorted(late)), rows)


def read_program(text):
    """The program whose text it is; anything else is refused with NoProgram."""
    if not isinstance(text, str):
        raise NoProgram("it is no text")
    found = read_whole(Reader([row.split(" ") for row in text.split("\n")]))
    if not is_program(found):
        raise NoProgram("its rows are not those of a program")
    return found
