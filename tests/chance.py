"""Programs, choices and kinds there as chance makes them, the same ones each time."""

import random

FEW = ("x", "y", "z")
MANY = ("s", "t", "u", "v", "w", "x", "y", "z")
FIELDS = ("f", "g")
DEEDS = ("do", "be", "go")
WORDS = (
    "make", "copy", "put", "put", "take", "take", "say", "call", "call", "call", "call", "call", "either", "again",
    "bring",
)


class Maker:
    """Makes one program; the number tells which one."""

    def __init__(self, number):
        self.chance = random.Random(number)
        self.room = 60
        # With many variables in main, and little in the deeds, less of what flows comes together.
        self.variables, self.most = (MANY, 3) if number % 2 else (FEW, 7)

    def pick(self, things):
        return things[self.chance.randrange(len(things))]

    def program(self):
        names = ["a", "b", "c", "d", "e", "k"][:2 + self.chance.randrange(5)]
        self.elder = {}
        for at, name in enumerate(names):
            self.elder[name] = self.pick(names[:at]) if at and self.chance.randrange(6) else None
        late = []
        for name in names[1:]:
            if self.elder[name] in late or not self.chance.randrange(4):
                late.append(name)
        self.names, self.late = names, tuple(sorted(late))
        self.many = {deed: self.chance.randrange(3) for deed in DEEDS}
        self.has = {}
        for name in names:
            own = [deed for deed in DEEDS if not self.chance.randrange(3 if self.elder[name] else 2)]
            self.has[name] = own
        kinds = []
        for name in names:
            deeds = []
            for deed in self.has[name]:
                params = FEW[:self.many[deed]]
                rows = self.rows(("own",) + FEW, 2, self.most)
                deeds.append((deed, params, rows, self.pick(("own", None) + FEW)))
            kinds.append((name, self.elder[name], tuple(deeds)))
        main = tuple(("make", variable, self.made()) for variable in self.variables) + self.rows(self.variables, 3, 12)
        return (tuple(kinds), self.late, main)

    def made(self):
        """A kind to be made, now and then one that may not be there."""
        if self.chance.randrange(6):
            return self.pick([name for name in self.names if name not in self.late])
        return self.pick(self.names)

    def called(self):
        """A kind to be called by, often one without an elder: more kinds are below it."""
        if self.chance.randrange(3):
            return self.pick([name for name in self.names if self.elder[name] is None])
        return self.pick(self.names)

    def answered(self, name):
        found = []
        while name is not None:
            found += self.has[name]
            name = self.elder[name]
        return sorted(set(found))

    def rows(self, readable, nested, most):
        found = []
        for at in range(self.chance.randrange(1 + most)):
            if self.room:
                self.room -= 1
                found.append(self.row(readable, nested))
        return tuple(found)

    def row(self, readable, nested):
        word = self.pick(WORDS)
        x, y = self.pick([word for word in readable if word != "own"]), self.pick(readable)
        if word == "copy":
            return (word, x, y)
        if word == "put":
            return (word, y, self.pick(FIELDS), self.pick(readable))
        if word == "take":
            return (word, x, y, self.pick(FIELDS))
        if word == "call":
            name = self.called()
            if self.answered(name):
                deed = self.pick(self.answered(name))
                return (word, x, y, name, deed, tuple(self.pick(readable) for at in range(self.many[deed])))
        if word == "either" and nested:
            return (word, self.rows(readable, nested - 1, 3), self.rows(readable, nested - 1, 3))
        if word == "again" and nested:
            return (word, self.rows(readable, nested - 1, 4))
        if word == "bring" and self.late:
            return (word, self.pick(self.late))
        if word == "say":
            return (word, self.pick(("hm", "ho")))
        return ("make", x, self.made())

    def choices(self):
        return tuple(self.pick((0, 0, 1, 1, 2, 3, -1, 11)) for at in range(self.chance.randrange(12)))


def program(number):
    return Maker(number).program()


def runs(number, many):
    """Choices and a most for each of so many runs."""
    maker = Maker(number)
    return [(maker.choices(), maker.pick((5, 20, 60, 150))) for at in range(many)]


class LateMaker(Maker):
    """Makes one program half of whose kinds are late; main calls ahead of and behind their coming."""

    def __init__(self, number):
        Maker.__init__(self, number)
        self.variables = MANY

    def program(self):
        names = ["a", "b", "c", "d", "e", "k", "m"][:4 + self.chance.randrange(4)]
        self.elder = {name: self.pick(names[:at]) if at and self.chance.randrange(20) else None for at, name in enumerate(names)}
        late = []
        for name in names[2:]:
            if self.elder[name] in late or self.chance.randrange(2):
                late.append(name)
        self.names, self.late = names, tuple(sorted(late))
        self.many = {deed: self.chance.randrange(2) for deed in DEEDS}
        self.has = {name: [deed for deed in DEEDS if not at or not self.chance.randrange(3)] for at, name in enumerate(names)}
        kinds = []
        for name in names:
            deeds = [(deed, FEW[:self.many[deed]], self.inner(), self.pick(("own", None, "x"))) for deed in self.has[name]]
            kinds.append((name, self.elder[name], tuple(deeds)))
        return (tuple(kinds), self.late, self.main())

    def called(self):
        """Most often the first kind, so that few runs end at a call that doesn't fit."""
        return "a" if self.chance.randrange(8) else Maker.called(self)

    def made(self):
        """A kind that is there, or may be by then."""
        return self.pick([name for name in self.names if name not in self.late] + list(self.brought))

    def inner(self):
        self.brought = self.late
        rows = [self.row(("own",) + FEW[:1], 0) for at in range(self.chance.randrange(3))]
        return tuple(row for row in rows if row[0] != "make" or row[2] not in self.late)

    def main(self):
        self.brought = ()
        found = [("make", variable, self.made()) for variable in self.variables[:5]] + self.some_calls()
        for name in self.late[:3]:
            self.brought += (name,)
            block = (("bring", name), ("make", self.pick(self.variables), name)) + tuple(self.some_calls())
            found += block if self.chance.randrange(3) else [("either", block, (("say", "hm"),))]
        # Done again, calls ahead of a coming are done behind it too.
        return tuple(found[:20]) if self.chance.randrange(3) == 0 else (("again", tuple(found[:20])),)

    def some_calls(self):
        found = []
        while len(found) < 3:
            row = self.row(self.variables[:5], 0)
            found += [row] * (row[0] in ("call", "copy"))
        return found


def late_program(number):
    return LateMaker(number).program()
