"""What the program is to tell, reckoned once more in another manner: the tests hold the one against the other."""


def parts(program):
    """All bodies with their rows, params and gives."""
    found = {("", ""): (program[2], (), None)}
    for name, elder, deeds in program[0]:
        for deed, params, rows, gives in deeds:
            found[(name, deed)] = (rows, params, gives)
    return found


def flat(rows):
    """Rows, and those within them, as they are numbered."""
    for row in rows:
        yield row
        if row[0] in ("either", "again"):
            for inner in row[1:]:
                yield from flat(inner)


def rows_by_number(program):
    return [(body, row) for body, part in parts(program).items() for row in flat(part[0])]


def line(program, kind):
    """The kind, its elder, and so on."""
    elder = {name: under for name, under, deeds in program[0]}
    while kind is not None:
        yield kind
        kind = elder[kind]


def below(program, one, other):
    return other in list(line(program, one))


def answer(program, kind, deed):
    return next(name for name in line(program, kind) if (name, deed) in parts(program))


def all_kinds(program):
    return sorted(name for name, elder, deeds in program[0])


def theres(program):
    """All tuples of kinds that may be there: with each kind its elders."""
    names = all_kinds(program)
    for bits in range(2 ** len(names)):
        there = tuple(name for at, name in enumerate(names) if bits >> at & 1)
        if all(set(line(program, name)) <= set(there) for name in there):
            yield there


def there_at_first(program):
    return tuple(name for name in all_kinds(program) if name not in program[1])


class Ended(Exception):
    def __init__(self, word, number):
        self.end = (word, number)


class Walk:
    """The plain run by recursion, each row's number found by which one it is of all."""

    def __init__(self, program, choices, most):
        self.program, self.left, self.most = program, list(choices), most
        self.there = list(there_at_first(program))
        self.log, self.depth = [], 0
        self.first, number = {}, 0
        for body, part in parts(program).items():
            self.first[body] = number
            number += len(list(flat(part[0])))

    def run(self):
        try:
            self.do_all(self.program[2], 0, {})
            end = ("done", None)
        except Ended as ended:
            end = ended.end
        looks = 0
        for entry in self.log:
            if entry[0] == "did":
                looks += list(line(self.program, entry[2])).index(entry[3]) + 1
        return tuple(self.log), looks, end

    def choice(self):
        return self.left.pop(0) if self.left else 0

    def do_all(self, rows, number, held):
        for row in rows:
            self.do(row, number, held)
            number += len(list(flat((row,))))

    def thing(self, held, variable, number):
        if held.get(variable) is None:
            raise Ended("nothing", number)
        return held[variable]

    def do(self, row, number, held):
        if self.most < 1:
            raise Ended("long", number)
        self.most -= 1
        word = row[0]
        if word == "make":
            if row[2] not in self.there:
                raise Ended("absent", number)
            held[row[1]] = {"": row[2]}
        elif word == "copy":
            held[row[1]] = held.get(row[2])
        elif word == "put":
            self.thing(held, row[1], number)[row[2]] = held.get(row[3])
        elif word == "take":
            held[row[1]] = self.thing(held, row[2], number).get(row[3])
        elif word == "say":
            self.log.append(("say", number, row[1]))
        elif word == "either":
            if self.choice():
                self.do_all(row[2], number + 1 + len(list(flat(row[1]))), held)
            else:
                self.do_all(row[1], number + 1, held)
        elif word == "again":
            for turn in range(sorted((0, self.choice(), 9))[1]):
                self.do_all(row[1], number + 1, held)
        elif word == "bring":
            for name in [name for name in line(self.program, row[1]) if name not in self.there][::-1]:
                self.there.append(name)
                self.log.append(("came", name))
        else:
            self.call(row, number, held)

    def call(self, row, number, held):
        word, x, y, kind, deed, args = row
        own = self.thing(held, y, number)
        if not below(self.program, own[""], kind):
            raise Ended("unfit", number)
        if self.depth == 40:
            raise Ended("deep", number)
        body = (answer(self.program, own[""], deed), deed)
        rows, params, gives = parts(self.program)[body]
        inner = dict(zip(params, [held.get(arg) for arg in args]), own=own)
        self.log.append(("did", number, own[""], body[0]))
        self.depth += 1
        self.do_all(rows, self.first[body], inner)
        self.depth -= 1
        held[x] = inner.get(gives)


def told_for_calls(program, there, kinds_of):
    """Of each call's number the kinds that are there, told by its body, below the call's."""
    found = []
    for number, (body, row) in enumerate(rows_by_number(program)):
        if row[0] == "call":
            kinds = [kind for kind in there if kind in kinds_of(body) and below(program, kind, row[3])]
            found.append((number, tuple(sorted(kinds))))
    return tuple(found)


def told_by_tree(program, there):
    return told_for_calls(program, there, lambda body: there if body[0] in there + ("",) else ())


def made(program, there, more_bodies=(), more_kinds=()):
    """The bodies come to and the kinds made, each time all anew from those of the time ahead.

    Handed in may be some that are there whether or not anything comes to them or makes them.
    """
    rows, bodies, kinds = rows_by_number(program), set(), set()
    while True:
        more = {("", "")} | set(more_bodies) | {
            (answer(program, kind, row[4]), row[4]) for body, row in rows for kind in kinds
            if row[0] == "call" and body in bodies and below(program, kind, row[3])
        }
        made_now = {row[2] for body, row in rows if row[0] == "make" and body in bodies and row[2] in there}
        made_now |= set(more_kinds)
        if (more, made_now) == (bodies, kinds):
            return bodies, kinds
        bodies, kinds = more, made_now


def told_by_made(program, there):
    bodies, kinds = made(program, there)
    return told_for_calls(program, there, lambda body: kinds if body in bodies else ())


def flow(program, there, apart=False, more_bodies=(), more_holds=()):
    """The bodies come to, and all (spot, kind): every row by every kind, over and over until nothing new comes.

    Handed in may be some that are there whether or not anything flows to them.
    """
    main = ("", "", "") if apart else ("", "")
    names, bodies, holds, many = all_kinds(program), {main} | set(more_bodies), set(more_holds), -1
    rows = rows_by_number(program)

    def flow_to(spot, source):
        holds.update((spot, name) for name in names if (source, name) in holds)

    while many != len(bodies) + len(holds):
        many = len(bodies) + len(holds)
        for place in list(bodies):
            at = lambda variable: ("of",) + place + (variable,)
            for body, row in rows:
                if body != place[:2]:
                    continue
                if row[0] == "make" and row[2] in there:
                    holds.add((at(row[1]), row[2]))
                elif row[0] == "copy":
                    flow_to(at(row[1]), at(row[2]))
                for name in names:
                    if row[0] == "put" and (at(row[1]), name) in holds:
                        flow_to(("in", name, row[2]), at(row[3]))
                    elif row[0] == "take" and (at(row[2]), name) in holds:
                        flow_to(at(row[1]), ("in", name, row[3]))
                    elif row[0] == "call" and (at(row[2]), name) in holds and below(program, name, row[3]):
                        to = (answer(program, name, row[4]), row[4])
                        deed, params, gives = parts(program)[to]
                        inner = to + (name,) if apart else to
                        bodies.add(inner)
                        holds.add((("of",) + inner + ("own",), name))
                        for param, arg in zip(params, row[5]):
                            flow_to(("of",) + inner + (param,), at(arg))
                        if gives is not None:
                            flow_to(at(row[1]), ("of",) + inner + (gives,))
    return bodies, holds


def flow_form(bodies, holds):
    """Bodies and all (spot, kind) as a paper has them."""
    spots = sorted({spot for spot, kind in holds})
    return tuple(sorted(bodies)), tuple((spot, tuple(sorted(kind for one, kind in holds if one == spot))) for spot in spots)


def closing(program, way, there, paper):
    """The least closed paper with all in it that the paper has."""
    if way == "tree":
        return ()
    if way == "made":
        bodies, kinds = made(program, there, *paper)
        return tuple(sorted(bodies)), tuple(sorted(kinds))
    holds = [(spot, kind) for spot, kinds in paper[1] for kind in kinds]
    return flow_form(*flow(program, there, way == "apart", paper[0], holds))


def told_by_flow(program, there, apart=False):
    """Of each call's number the kinds, by what flows."""
    bodies, holds = flow(program, there, apart)
    found = []
    for number, (body, row) in enumerate(rows_by_number(program)):
        if row[0] == "call":
            spots = [("of",) + place + (row[2],) for place in bodies if place[:2] == body]
            kinds = {kind for spot, kind in holds if spot in spots and below(program, kind, row[3])}
            found.append((number, tuple(sorted(kinds))))
    return tuple(found)


def stands(program, there, fact, number, known):
    """Whether the fact stands by the row with that number, by the facts known."""
    if number is None:
        return fact == ("body", ("", ""))
    body, row = rows_by_number(program)[number]
    if ("body", body) not in known:
        return False
    at = lambda variable: ("of",) + body + (variable,)
    hold = lambda spot: [name for name in all_kinds(program) if ("holds", spot, name) in known]
    if row[0] == "call":
        ones = [name for name in hold(at(row[2])) if below(program, name, row[3])]
        return any(stands_by_call(program, at, hold, row, one, fact) for one in ones)
    if fact[0] != "holds":
        return False
    word, spot, kind = fact
    if row[0] == "put":
        return spot in [("in", one, row[2]) for one in hold(at(row[1]))] and kind in hold(at(row[3]))
    if row[0] in ("make", "copy", "take") and spot != at(row[1]):
        return False
    if row[0] == "make":
        return kind == row[2] and kind in there
    if row[0] == "copy":
        return kind in hold(at(row[2]))
    if row[0] == "take":
        return any(kind in hold(("in", one, row[3])) for one in hold(at(row[2])))
    return False


def stands_by_call(program, at, hold, row, one, fact):
    inner = (answer(program, one, row[4]), row[4])
    rows, params, gives = parts(program)[inner]
    if fact in (("body", inner), ("holds", ("of",) + inner + ("own",), one)):
        return True
    if fact[0] == "body":
        return False
    word, spot, kind = fact
    for param, arg in zip(params, row[5]):
        if spot == ("of",) + inner + (param,) and kind in hold(at(arg)):
            return True
    return gives is not None and spot == at(row[1]) and kind in hold(("of",) + inner + (gives,))


def is_why(program, there, number, kind, steps):
    """Whether the steps, each of a step's form, are such a tuple."""
    known = set()
    for fact, by in steps:
        if not stands(program, there, fact, by, known):
            return False
        known.add(fact)
    body, row = rows_by_number(program)[number]
    if not steps or steps[-1][0] != ("holds", ("of",) + body + (row[2],), kind):
        return False
    return ("body", body) in known and below(program, kind, row[3])
