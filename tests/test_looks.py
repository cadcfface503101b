"""Which papers are taken, and what one that is taken tells."""

import copy
import random
import unittest

import chance
import reckoned
from more_papers import with_less, with_more
from samples import RICH, deed, kind, program
from surecall.looks import shows, told_by
from surecall.papers import paper, told
from why_cases import CASES, call, whole

WAYS = ("tree", "made", "flow", "apart")
PROGRAMS = [RICH] + [whole(case) for case in CASES] + [chance.program(number) for number in range(12)] \
    + [chance.late_program(number) for number in range(12)]
MAIN, MAIN_APART = ("", ""), ("", "", "")

# The kind e is late, c and its deed come to nothing in main.
KINDS = (
    kind("a", None, (deed("be"), deed("do", ("p",), (("put", "own", "f", "p"),), "p"))),
    kind("b", "a"),
    kind("c", None, (deed("go", ("q",), (("make", "r", "b"), call("r", "a"), ("copy", "s", "own"))),)),
    kind("e", "a", (deed("be"),)),
)
ONE = program(KINDS, ("e",), (("make", "x", "a"), call("x", "a", "do", ("x",), "y"), ("bring", "e"), ("make", "z", "e")))
THERE = ("a", "b", "c")
MADE = ((MAIN, ("a", "do")), ("a",))
FLOW = (
    (MAIN, ("a", "do")),
    (
        (("in", "a", "f"), ("a",)),
        (("of", "", "", "x"), ("a",)), (("of", "", "", "y"), ("a",)),
        (("of", "a", "do", "own"), ("a",)), (("of", "a", "do", "p"), ("a",)),
    ),
)
APART = (
    (MAIN_APART, ("a", "do", "a")),
    (
        (("in", "a", "f"), ("a",)),
        (("of", "", "", "", "x"), ("a",)), (("of", "", "", "", "y"), ("a",)),
        (("of", "a", "do", "a", "own"), ("a",)), (("of", "a", "do", "a", "p"), ("a",)),
    ),
)


def more_bodies(one, *bodies):
    """The paper with these bodies more."""
    return (tuple(sorted(one[0] + bodies)), one[1])


def more_held(one, spot, *kinds):
    """The paper with the spot holding these kinds too."""
    held = dict(one[1])
    held[spot] = tuple(sorted(set(held.get(spot, ()) + kinds)))
    return (one[0], tuple(sorted(held.items())))


def theres(one):
    """A few tuples of kinds there, none, those at first and all among them."""
    found = list(reckoned.theres(one))
    return [reckoned.there_at_first(one)] + found[::1 + len(found) // 4] + found[-1:]


class Shown(unittest.TestCase):
    def shown(self, way, thing, kinds=THERE, one=ONE):
        found = shows(one, way, kinds, thing)
        self.assertIsInstance(found, bool)
        return found

    def taken(self, way, thing, **named):
        self.assertIs(self.shown(way, thing, **named), True, (way, thing))

    def refused(self, way, thing, **named):
        self.assertIs(self.shown(way, thing, **named), False, (way, thing))


class TakenTest(Shown):
    def test_the_papers_themselves(self):
        for way, thing in (("tree", ()), ("made", MADE), ("flow", FLOW), ("apart", APART)):
            self.assertEqual(paper(ONE, way, THERE), thing)
            self.taken(way, thing)

    def test_each_paper_that_is_told(self):
        for one in PROGRAMS:
            for kinds in theres(one):
                for way in WAYS:
                    self.taken(way, paper(one, way, kinds), kinds=kinds, one=one)

    def test_the_paper_of_more_kinds_there(self):
        for one in PROGRAMS:
            for kinds in theres(one):
                for way in WAYS:
                    self.taken(way, paper(one, way, tuple(reckoned.all_kinds(one))), kinds=kinds, one=one)

    def test_a_kind_more(self):
        # With b made the call comes to no other body.
        self.taken("made", (MADE[0], ("a", "b")))
        self.taken("made", (MADE[0], ("a", "c")))

    def test_kinds_that_are_not_there(self):
        self.taken("made", (MADE[0], ("a", "e")))
        self.taken("flow", more_held(FLOW, ("of", "", "", "z"), "e"))
        self.taken("flow", more_held(FLOW, ("in", "e", "f"), "e"))
        self.taken("apart", more_held(APART, ("of", "", "", "", "z"), "e"))
        self.taken("apart", more_bodies(APART, ("a", "be", "e")))
        self.taken("made", MADE, kinds=("a",))
        self.taken("flow", FLOW, kinds=())

    def test_a_body_more_that_owes_nothing(self):
        self.taken("made", more_bodies(MADE, ("a", "be")))
        self.taken("made", more_bodies(MADE, ("e", "be")))
        self.taken("flow", more_bodies(FLOW, ("a", "be"), ("e", "be")))
        self.taken("apart", more_bodies(APART, ("a", "be", "b"), ("e", "be", "e")))

    def test_a_body_more_with_all_that_it_owes(self):
        greater = more_bodies(MADE, ("a", "be"), ("c", "go"))
        self.taken("made", (greater[0], ("a", "b")))
        self.refused("made", greater)
        self.refused("made", (more_bodies(MADE, ("c", "go"))[0], ("a", "b")))
        greater = more_held(more_bodies(FLOW, ("c", "go")), ("of", "c", "go", "r"), "b")
        self.refused("flow", greater)
        greater = more_bodies(greater, ("a", "be"))
        self.refused("flow", greater)
        self.taken("flow", more_held(greater, ("of", "a", "be", "own"), "b"))

    def test_of_apart_any_kind_as_own_s(self):
        for name in ("a", "b", "c", "e"):
            self.taken("apart", more_bodies(APART, ("a", "be", name)))
            greater = more_held(more_bodies(APART, ("a", "be", "b"), ("c", "go", name)), ("of", "c", "go", name, "r"), "b")
            self.refused("apart", greater)
            self.taken("apart", more_held(greater, ("of", "a", "be", "b", "own"), "b"))

    def test_own_of_a_body_more_needs_hold_nothing_but_what_it_holds_flows(self):
        greater = more_held(more_bodies(APART, ("a", "be", "b"), ("c", "go", "c")), ("of", "c", "go", "c", "r"), "b")
        greater = more_held(greater, ("of", "a", "be", "b", "own"), "b")
        self.taken("apart", greater)
        greater = more_held(greater, ("of", "c", "go", "c", "own"), "a")
        self.refused("apart", greater)
        self.taken("apart", more_held(greater, ("of", "c", "go", "c", "s"), "a"))

    def test_a_spot_more(self):
        self.taken("flow", more_held(FLOW, ("of", "", "", "other"), "a", "b", "c", "e"))
        self.taken("flow", more_held(FLOW, ("in", "c", "any"), "c"))
        self.taken("flow", more_held(FLOW, ("in", "b", "own"), "c"))
        # Of a body that is not in it, and own where no row has it.
        self.taken("flow", more_held(FLOW, ("of", "c", "go", "own"), "b"))
        self.taken("flow", more_held(FLOW, ("of", "", "", "own"), "c"))
        self.taken("apart", more_held(APART, ("of", "c", "go", "a", "own"), "b"))
        self.taken("apart", more_held(APART, ("of", "", "", "", "own"), "c"))

    def test_a_kind_more_in_a_spot_with_all_that_it_owes(self):
        greater = more_held(FLOW, ("of", "", "", "x"), "c")
        self.refused("flow", greater)
        # The call's kind is a, so that c flows as an arg alone.
        greater = more_held(greater, ("of", "a", "do", "p"), "c")
        self.refused("flow", greater)
        greater = more_held(greater, ("of", "", "", "y"), "c")
        self.refused("flow", greater)
        self.taken("flow", more_held(greater, ("in", "a", "f"), "c"))

    def test_kinds_that_are_not_there_owe_as_others_do(self):
        greater = more_held(FLOW, ("of", "", "", "x"), "e")
        self.refused("flow", greater)
        for spot in (("of", "a", "do", "p"), ("of", "", "", "y"), ("in", "a", "f"), ("of", "a", "do", "own")):
            greater = more_held(greater, spot, "e")
        self.refused("flow", greater)
        self.taken("flow", more_held(greater, ("in", "e", "f"), "a", "e"))
        rows = (("make", "x", "a"), call("x", "a"))
        self.refused("made", ((MAIN, ("a", "be")), ("a", "e")), one=program(KINDS, ("e",), rows))
        self.taken("made", ((MAIN, ("a", "be"), ("e", "be")), ("a", "e")), one=program(KINDS, ("e",), rows))

    def test_greater_ones_by_chance(self):
        many = 0
        for at, one in enumerate(PROGRAMS):
            luck = random.Random(at)
            for kinds in theres(one):
                for way in WAYS[1:]:
                    least = paper(one, way, kinds)
                    some = reckoned.closing(one, way, kinds, with_more(luck, one, way, least))
                    self.taken(way, some, kinds=kinds, one=one)
                    many += some != least
        self.assertGreater(many, 200)


class LeftOutTest(Shown):
    def test_each_thing_of_the_paper_that_is_told(self):
        # All that stands in it is owed by something else in it, or by main.
        for one in PROGRAMS[:20]:
            for kinds in (reckoned.there_at_first(one), tuple(reckoned.all_kinds(one))):
                for way in WAYS[1:]:
                    least = paper(one, way, kinds)
                    for less in with_less(way, least):
                        told_closed = reckoned.closing(one, way, kinds, less) == less
                        self.assertIs(self.shown(way, less, kinds=kinds, one=one), told_closed)
                        self.assertIs(told_closed, False)

    def test_each_thing_of_greater_ones(self):
        found = {True: 0, False: 0}
        for at, one in enumerate(PROGRAMS[:25]):
            luck = random.Random(at)
            kinds = reckoned.there_at_first(one)
            for way in WAYS[1:]:
                some = reckoned.closing(one, way, kinds, with_more(luck, one, way, paper(one, way, kinds)))
                for less in with_less(way, some):
                    told_closed = reckoned.closing(one, way, kinds, less) == less
                    self.assertIs(self.shown(way, less, kinds=kinds, one=one), told_closed)
                    found[told_closed] += 1
        self.assertGreater(min(found.values()), 30)

    def test_main(self):
        self.refused("made", (MADE[0][1:], MADE[1]))
        self.refused("flow", (FLOW[0][1:], FLOW[1]))
        self.refused("apart", (APART[0][1:], APART[1]))
        for way in WAYS[1:]:
            self.refused(way, ((), ()))
            self.refused(way, ((), ()), one=program(), kinds=())
        self.taken("made", ((MAIN,), ()), one=program(), kinds=())
        self.taken("flow", ((MAIN,), ()), one=program(), kinds=())
        self.taken("apart", ((MAIN_APART,), ()), one=program(), kinds=())

    def test_more_kinds_there_owe_more(self):
        kinds = ("a", "b", "c", "e")
        self.refused("made", MADE, kinds=kinds)
        self.taken("made", (MADE[0], ("a", "e")), kinds=kinds)
        self.refused("flow", FLOW, kinds=kinds)
        self.taken("flow", more_held(FLOW, ("of", "", "", "z"), "e"), kinds=kinds)
        self.refused("apart", APART, kinds=kinds)
        self.taken("apart", more_held(APART, ("of", "", "", "", "z"), "e"), kinds=kinds)


class FormTest(Shown):
    def test_of_tree_just_nothing(self):
        self.taken("tree", ())
        self.taken("tree", (), kinds=())
        for thing in (MADE, FLOW, APART, ((), ()), ((),), (None,), [], None, "", 0, False, b"", {}):
            self.refused("tree", thing)

    def test_a_paper_of_another_way(self):
        papers = {"tree": (), "made": MADE, "flow": FLOW, "apart": APART}
        for way in WAYS:
            for other in WAYS:
                self.assertIs(self.shown(way, papers[other]), way == other, (way, other))

    def test_not_rising(self):
        greater = more_bodies(MADE, ("a", "be"))
        self.refused("made", (greater[0][::-1], greater[1]))
        self.refused("made", (MADE[0], ("b", "a")))
        self.refused("flow", (FLOW[0][::-1], FLOW[1]))
        self.refused("flow", (FLOW[0], FLOW[1][::-1]))
        self.refused("flow", (FLOW[0], FLOW[1][1:] + FLOW[1][:1]))
        self.refused("apart", (APART[0][::-1], APART[1]))
        self.refused("apart", (APART[0], APART[1][::-1]))
        spot = ("of", "", "", "other")
        self.taken("flow", (FLOW[0], FLOW[1][:1] + ((spot, ("b", "c")),) + FLOW[1][1:]))
        self.refused("flow", (FLOW[0], FLOW[1][:1] + ((spot, ("c", "b")),) + FLOW[1][1:]))

    def test_a_thing_twice(self):
        self.refused("made", (MADE[0][:1] + MADE[0], MADE[1]))
        self.refused("made", (MADE[0], ("a", "a")))
        self.refused("flow", (FLOW[0] + FLOW[0][-1:], FLOW[1]))
        self.refused("apart", (APART[0] + APART[0][-1:], APART[1]))
        for way, one in (("flow", FLOW), ("apart", APART)):
            for at, (spot, kinds) in enumerate(one[1]):
                self.refused(way, (one[0], one[1][:at] + one[1][at:at + 1] + one[1][at:]))
                # Rising as pairs, but the spot is there twice.
                self.refused(way, (one[0], one[1][:at + 1] + ((spot, ("b",)),) + one[1][at + 1:]))
                self.refused(way, (one[0], one[1][:at] + ((spot, ("a", "a")),) + one[1][at + 1:]))

    def test_a_spot_without_kinds(self):
        self.refused("flow", (FLOW[0], FLOW[1] + ((("of", "a", "do", "z"), ()),)))
        self.refused("apart", (APART[0], APART[1] + ((("of", "a", "do", "a", "z"), ()),)))
        self.taken("flow", (FLOW[0], FLOW[1] + ((("of", "a", "do", "z"), ("b",)),)))
        self.taken("apart", (APART[0], APART[1] + ((("of", "a", "do", "a", "z"), ("b",)),)))

    def test_bodies_that_are_none_of_the_program_s(self):
        for body in (("b", "do"), ("a", "go"), ("a", ""), ("", "do"), ("z", "do"), ("do", "a"), ("a", "do", "a"), ("a",), (), "ab"):
            for way, one in (("made", MADE), ("flow", FLOW)):
                self.refused(way, (one[0] + (body,), one[1]))
                self.refused(way, ((body,) + one[0], one[1]))
        for body in (("a", "be"), ("b", "be", "b"), ("a", "be", ""), ("a", "be", "z"), ("", "", "a"), ("", "", "", ""), ("", "a", "")):
            self.refused("apart", (APART[0][:1] + (body,) + APART[0][1:], APART[1]))
            self.refused("apart", (APART[0] + (body,), APART[1]))
            self.refused("apart", ((body,) + APART[0], APART[1]))

    def test_kinds_that_are_none_of_the_program_s(self):
        for name in ("z", "", "A", "be", "x", "aa"):
            self.refused("made", (MADE[0], tuple(sorted(("a", name)))))
            self.refused("flow", more_held(FLOW, ("of", "", "", "z"), name))
            self.refused("apart", more_held(APART, ("of", "", "", "", "z"), name))

    def test_spots_that_are_none(self):
        for spot in (
            ("of", "b", "do", "x"), ("of", "a", "go", "x"), ("of", "", "do", "x"), ("of", "a", "", "x"), ("of", "z", "do", "x"),
            ("in", "z", "f"), ("in", "", "f"), ("in", "a"), ("in", "a", "f", "f"), ("in", "a", "do", "x"), ("of", "a", "f"),
            ("of", "a", "do"), ("of", "a", "do", "a", "x"), ("of", "", "", "", "x"), ("at", "a", "do", "x"), ("", "a", "f"),
            ("of",), ("in",), (), ("of", "a"), ("holds", "a", "f"), ("in", "", "", "x"),
        ):
            self.refused("flow", more_held(FLOW, spot, "a"))
        for spot in (
            ("of", "a", "do", "x"), ("of", "", "", "x"), ("of", "a", "do", "", "x"), ("of", "a", "do", "z", "x"),
            ("of", "b", "do", "b", "x"), ("of", "", "", "a", "x"), ("in", "a", "do", "a", "x"), ("in", "z", "f"), ("in", "a", "f", "f"),
            ("of", "a", "f"), ("of", "a", "do", "a", "a", "x"), ("at", "a", "do", "a", "x"), (),
        ):
            self.refused("apart", more_held(APART, spot, "a"))
        self.taken("apart", more_held(APART, ("of", "a", "be", "c", "x"), "a"))

    def test_variables_and_fields_that_are_no_words(self):
        for word in ("", "A", "a1", "two words", "ninewords", "x\n", " x", "\u00e4", "\ud800"):
            for spot in (("of", "", "", word), ("of", "a", "be", word), ("in", "a", word)):
                self.refused("flow", more_held(FLOW, spot, "b"))
            for spot in (("of", "", "", "", word), ("of", "a", "be", "b", word), ("in", "a", word)):
                self.refused("apart", more_held(APART, spot, "b"))
        for word in ("a", "own", "kind", "eightlet", "of", "in"):
            for spot in (("of", "", "", word), ("of", "a", "be", word), ("in", "b", word)):
                self.taken("flow", more_held(FLOW, spot, "b"))
            for spot in (("of", "", "", "", word), ("of", "a", "be", "b", word), ("in", "b", word)):
                self.taken("apart", more_held(APART, spot, "b"))

    def test_more_or_fewer_parts(self):
        for way, one in (("made", MADE), ("flow", FLOW), ("apart", APART)):
            for thing in ((), one[:1], one[1:], one + ((),), (one,), one + one, one[0], one[1], one[::-1]):
                self.refused(way, thing)
        for hold in ((("of", "a", "do", "z"),), (("of", "a", "do", "z"), ("a",), ("a",)), ("a",), (), (("of", "a", "do", "z"), "a")):
            self.refused("flow", (FLOW[0], FLOW[1] + (hold,)))


class ToldByTest(unittest.TestCase):
    def test_by_the_paper_that_is_told(self):
        for one in PROGRAMS:
            for kinds in theres(one):
                for way in WAYS:
                    self.assertEqual(told_by(one, way, kinds, paper(one, way, kinds)), told(one, way, kinds))

    def test_by_what_stands_in_it(self):
        rows = (("make", "x", "a"), call("x", "a"), call("y", "a"), call("x", "c", "go", ("x",)))
        one = program(KINDS, ("e",), rows)
        bodies = (MAIN, ("a", "be"), ("c", "go"), ("e", "be"))
        self.assertEqual(told_by(one, "made", THERE, (bodies, ("a", "b", "c", "e"))), (
            (1, ("a", "b", "e")), (2, ("a", "b", "e")), (3, ("c",)), (6, ("a", "b", "e")),
        ))
        holds = (
            (("of", "", "", "x"), ("a", "c", "e")), (("of", "", "", "y"), ("b",)), (("of", "a", "be", "own"), ("a", "b", "e")),
            (("of", "c", "go", "q"), ("a", "c", "e")), (("of", "c", "go", "r"), ("a", "b")), (("of", "c", "go", "s"), ("c",)),
        )
        self.assertEqual(told_by(one, "flow", THERE, (bodies, holds)), (
            (1, ("a", "e")), (2, ("b",)), (3, ("c",)), (6, ("a", "b")),
        ))
        bodies = (MAIN_APART, ("c", "go", "b"), ("c", "go", "c"))
        holds = (
            (("of", "", "", "", "x"), ("a", "c")), (("of", "c", "go", "a", "r"), ("a",)), (("of", "c", "go", "b", "r"), ("e",)),
            (("of", "c", "go", "c", "r"), ("b",)),
        )
        self.assertEqual(told_by(one, "apart", THERE, (bodies, holds)), (
            (1, ("a",)), (2, ()), (3, ("c",)), (6, ("b", "e")),
        ))

    def test_of_tree_by_the_tree(self):
        self.assertEqual(told_by(ONE, "tree", THERE, ()), ((1, ("a", "b")), (6, ("a", "b"))))
        self.assertEqual(told_by(ONE, "tree", ("a",), ()), ((1, ("a",)), (6, ())))

    def test_none_where_it_has_not_the_call_s_body(self):
        self.assertEqual(told_by(ONE, "made", THERE, MADE), ((1, ("a",)), (6, ())))
        more = more_held(FLOW, ("of", "c", "go", "r"), "a")
        self.assertEqual(shows(ONE, "flow", THERE, more), True)
        self.assertEqual(told_by(ONE, "flow", THERE, more), ((1, ("a",)), (6, ())))
        more = more_held(APART, ("of", "c", "go", "c", "r"), "a")
        self.assertEqual(shows(ONE, "apart", THERE, more), True)
        self.assertEqual(told_by(ONE, "apart", THERE, more), ((1, ("a",)), (6, ())))

    def test_of_a_greater_one_no_fewer(self):
        many = 0
        for at, one in enumerate(PROGRAMS):
            luck = random.Random(at)
            for kinds in theres(one):
                for way in WAYS[1:]:
                    some = reckoned.closing(one, way, kinds, with_more(luck, one, way, paper(one, way, kinds)))
                    greater, least = told_by(one, way, kinds, some), told(one, way, kinds)
                    self.assertEqual([number for number, told_kinds in greater], [number for number, told_kinds in least])
                    for (number, ones), (same, others) in zip(greater, least):
                        self.assertEqual(list(ones), sorted(set(ones)))
                        self.assertLessEqual(set(others), set(ones))
                        many += set(others) < set(ones)
        self.assertGreater(many, 50)

    def test_same_again_and_nothing_changed(self):
        for way in WAYS:
            for kinds in reckoned.theres(RICH):
                thing = paper(RICH, way, kinds)
                before = copy.deepcopy((RICH, kinds, thing))
                self.assertEqual(shows(RICH, way, kinds, thing), shows(RICH, way, kinds, thing))
                self.assertEqual(told_by(RICH, way, kinds, thing), told_by(RICH, way, kinds, thing))
                self.assertEqual((RICH, kinds, thing), before)


if __name__ == "__main__":
    unittest.main()
