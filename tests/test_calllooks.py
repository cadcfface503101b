"""Which papers bear a call's form until one of the kinds named comes."""

import copy
import unittest

import chance
import reckoned
from samples import RICH, deed, kind, program
from surecall.calllooks import shows_call
from surecall.making import call_paper, made
from surecall.papers import paper
from why_cases import call

WAYS = ("tree", "made", "flow", "apart")
PLAIN = ("plain",)
BE = (deed("be"),)

# Call 6 is straight until n comes, call 7 asks until m, call 8 has no kind, call 9 has one from m on.
KINDS = (kind("a", None, BE), kind("b", "a", BE), kind("m", "b"), kind("n", "a", BE), kind("o", "n"))
LATE = ("m", "n", "o")
ROWS = (
    ("make", "x", "a"), ("make", "y", "b"), ("make", "z", "a"), ("copy", "z", "y"), ("make", "z", "m"), ("make", "x", "n"),
    call("x", "a"), call("z", "a"), call("u", "a"), call("z", "m"),
)
ONE = program(KINDS, LATE, ROWS)
BOTH = (("a", "a"), ("b", "b"))


def there_but(names, one=ONE):
    return tuple(name for name in reckoned.all_kinds(one) if name not in names)


class Shown(unittest.TestCase):
    def shown(self, number, form, names, thing="its", way="flow"):
        """By the paper with all kinds there but those named, where no other is handed in."""
        thing = paper(ONE, way, there_but(names)) if thing == "its" else thing
        found = shows_call(ONE, way, number, form, names, thing)
        self.assertIsInstance(found, bool)
        return found

    def taken(self, *things, **named):
        self.assertIs(self.shown(*things, **named), True, things)

    def refused(self, *things, **named):
        self.assertIs(self.shown(*things, **named), False, things)


class TakenTest(Shown):
    def test_as_they_are_made(self):
        # Of n and o the call with x names n alone by what flows, and o with its elder.
        self.assertEqual(made(ONE, "flow")[0], (6, ("straight", "a"), ("n", "o")))
        for way in WAYS:
            for number, form, names in made(ONE, way):
                self.taken(number, form, names, call_paper(ONE, way, number), way=way)

    def test_by_chance(self):
        for one in [RICH] + [make(number) for number in range(15) for make in (chance.program, chance.late_program)]:
            for way in WAYS:
                for number, form, names in made(one, way):
                    self.assertIs(shows_call(one, way, number, form, names, call_paper(one, way, number)), True)

    def test_a_greater_paper(self):
        bodies, holds = paper(ONE, "flow", ("a", "b", "m"))
        self.taken(6, ("straight", "a"), ("n", "o"), (bodies, holds))
        self.taken(6, ("straight", "a"), ("n", "o"), (bodies + (("n", "be"),), holds))
        # It tells b, that is another answer.
        more = tuple((spot, ("a", "b") if spot == ("of", "", "", "x") else kinds) for spot, kinds in holds)
        self.refused(6, ("straight", "a"), ("n", "o"), (bodies, more))

    def test_more_kinds_named_than_must_be(self):
        self.taken(6, ("straight", "a"), ("m", "n", "o"))
        self.taken(8, PLAIN, LATE)

    def test_a_paper_with_kinds_there_that_are_named(self):
        self.refused(6, ("straight", "a"), ("n", "o"), paper(ONE, "flow", ("a", "b", "m", "n", "o")))
        # What is told by the paper with few kinds there isn't closed with more.
        self.refused(6, ("straight", "a"), (), paper(ONE, "flow", ("a", "b", "m")))

    def test_a_paper_that_is_not_taken(self):
        for number, form, names in ((6, ("straight", "a"), ("n", "o")), (8, PLAIN, ())):
            bodies, holds = paper(ONE, "flow", there_but(names))
            self.taken(number, form, names, (bodies, holds))
            self.refused(number, form, names, (bodies, holds[1:]))
            self.refused(number, form, names, (bodies[1:], holds))
            self.refused(number, form, names, (bodies, holds[::-1]))
            self.refused(number, form, names, ())
            self.refused(number, form, names, (bodies, holds), way="apart")
            self.refused(number, form, names, (bodies, holds), way="made")
            self.refused(number, form, names, (bodies, holds), way="tree")


class NamesTest(Shown):
    def test_a_kind_that_is_there_at_first(self):
        for form in (("straight", "a"), ("asks", BOTH), PLAIN, ("asks", ())):
            for number in (6, 7, 8, 9):
                for way in WAYS:
                    self.refused(number, form, ("b", "m"), way=way)
                    self.refused(number, form, ("a", "b", "m", "n", "o"), way=way)
                    self.refused(number, form, ("b", "m", "n", "o"), way=way)
        self.taken(8, PLAIN, ("m",))

    def test_one_not_named_whose_elder_is(self):
        for number, form in ((6, ("straight", "a")), (8, PLAIN), (8, ("asks", ()))):
            self.refused(number, form, ("n",))
            self.taken(number, form, ("n", "o"))
            self.refused(number, form, ("m", "n"))
            self.taken(number, form, ("m", "n", "o"))

    def test_one_far_below(self):
        kinds = (kind("a", None, BE), kind("m", "a"), kind("n", "m"), kind("o", "n"))
        one = program(kinds, LATE, (call("x", "a"),))
        for names, found in ((("m",), False), (("m", "n"), False), (("m", "o"), False), (("n",), False), (("n", "o"), True),
                             (("o",), True), (("m", "n", "o"), True), ((), True)):
            self.assertIs(shows_call(one, "tree", 0, PLAIN, names, ()), found, names)

    def test_the_elder_may_be_left_out(self):
        self.taken(8, PLAIN, ("o",))
        self.refused(6, ("straight", "a"), ("o",))


class StraightTest(Shown):
    def test_another_answer(self):
        for answer in ("b", "n", "o", "m", "z", "", "be"):
            self.refused(6, ("straight", answer), ("n", "o"))

    def test_more_than_one_answer(self):
        self.refused(6, ("straight", "a"), ())
        self.refused(6, ("straight", "n"), ())
        self.refused(7, ("straight", "a"), ("m",))
        self.refused(7, ("straight", "b"), ("m",))

    def test_several_kinds_with_one_answer(self):
        rows = (("make", "x", "b"), ("make", "x", "m"), call("x", "a"))
        one = program(KINDS, LATE, rows)
        for names in ((), ("m",), LATE):
            for way in WAYS[1:]:
                self.assertIs(shows_call(one, way, 2, ("straight", "b"), names, paper(one, way, there_but(names))), True)
                self.assertIs(shows_call(one, way, 2, ("straight", "m"), names, paper(one, way, there_but(names))), False)

    def test_where_the_call_has_no_kind(self):
        for answer in ("a", "b"):
            self.refused(8, ("straight", answer), ())
            self.refused(9, ("straight", answer), ("m",))
        self.taken(9, ("straight", "b"), ())


class AsksTest(Shown):
    def test_in_any_order(self):
        self.taken(7, ("asks", BOTH), ("m",))
        self.taken(7, ("asks", BOTH[::-1]), ("m",))

    def test_a_kind_left_out(self):
        self.refused(7, ("asks", BOTH[:1]), ("m",))
        self.refused(7, ("asks", BOTH[1:]), ("m",))
        self.refused(7, ("asks", ()), ("m",))
        self.refused(7, ("asks", BOTH), ())

    def test_a_kind_put_in(self):
        for name, answer in (("m", "b"), ("n", "n"), ("o", "n"), ("z", "a"), ("", "")):
            for rows in (BOTH + ((name, answer),), ((name, answer),) + BOTH, BOTH[:1] + ((name, answer),)):
                self.refused(7, ("asks", rows), ("m",))
        self.taken(7, ("asks", BOTH + (("m", "b"),)), ())

    def test_a_kind_twice(self):
        for rows in (BOTH + BOTH[:1], BOTH + BOTH[1:], BOTH + BOTH, BOTH[:1] + BOTH[:1], BOTH[1:] + BOTH[1:], BOTH + (("a", "b"),)):
            self.refused(7, ("asks", rows), ("m",))

    def test_another_answer(self):
        for rows in ((("a", "a"), ("b", "a")), (("a", "b"), ("b", "b")), (("a", "b"), ("b", "a")), (("a", "a"), ("b", "z"))):
            self.refused(7, ("asks", rows), ("m",))
        self.refused(7, ("asks", BOTH + (("m", "m"),)), ())
        self.refused(7, ("asks", BOTH + (("m", "a"),)), ())

    def test_no_rows_where_the_call_has_no_kind(self):
        self.taken(8, ("asks", ()), ())
        self.taken(9, ("asks", ()), ("m",))
        self.refused(9, ("asks", ()), ())
        self.refused(8, ("asks", (("a", "a"),)), ())

    def test_of_one_kind_or_one_answer_or_dear_ones(self):
        self.taken(6, ("asks", (("a", "a"),)), ("n", "o"))
        self.taken(9, ("asks", (("m", "b"),)), ())
        for rows in ((("a", "a"), ("b", "b"), ("m", "b")), (("b", "b"), ("m", "b"), ("a", "a"))):
            self.taken(7, ("asks", rows), ())


class PlainTest(Shown):
    def test_whatever_kinds(self):
        for number in (6, 7, 8, 9):
            for names in ((), ("m",), ("n", "o"), LATE):
                for way in WAYS:
                    self.taken(number, PLAIN, names, way=way)


class SameTest(unittest.TestCase):
    def test_same_again_and_nothing_changed(self):
        for one in (ONE, RICH):
            for way in WAYS:
                for number, form, names in made(one, way):
                    thing = call_paper(one, way, number)
                    before = copy.deepcopy((one, form, names, thing))
                    for time in range(2):
                        self.assertIs(shows_call(one, way, number, form, names, thing), True)
                    self.assertEqual((one, form, names, thing), before)


if __name__ == "__main__":
    unittest.main()
