"""By what is made: which bodies are come to, which kinds are made, and what is told for a call."""

import copy
import unittest

import chance
import reckoned
from samples import RICH, deed, kind, program
from surecall.makes import by_made, made_paper
from why_cases import call

MAIN = ("", "")


class MadePaperTest(unittest.TestCase):
    def test_main_is_come_to(self):
        self.assertEqual(made_paper(program(), ("a",)), ((MAIN,), ()))
        self.assertEqual(made_paper(program(), ()), ((MAIN,), ()))
        self.assertEqual(made_paper(program(rows=(("say", "hm"),)), ("a",)), ((MAIN,), ()))

    def test_makes(self):
        one = program((kind("b"), kind("a"), kind("c")), (), (("make", "x", "c"), ("make", "y", "a"), ("make", "z", "a")))
        self.assertEqual(made_paper(one, ("a", "b", "c")), ((MAIN,), ("a", "c")))

    def test_a_make_of_a_kind_that_is_not_there(self):
        one = program((kind("a"), kind("b")), ("b",), (("make", "x", "a"), ("bring", "b"), ("make", "x", "b")))
        self.assertEqual(made_paper(one, ("a",)), ((MAIN,), ("a",)))
        self.assertEqual(made_paper(one, ("a", "b")), ((MAIN,), ("a", "b")))
        self.assertEqual(made_paper(one, ("b",)), ((MAIN,), ("b",)))
        self.assertEqual(made_paper(one, ()), ((MAIN,), ()))

    def test_a_bring_makes_nothing(self):
        one = program((kind("a"), kind("b")), ("b",), (("bring", "b"),))
        self.assertEqual(made_paper(one, ("a", "b")), ((MAIN,), ()))

    def test_rows_within_either_and_again(self):
        kinds = (kind("a"), kind("b"), kind("c", None, (deed("be"), deed("do"))))
        rows = (
            ("either", (("make", "x", "a"), call("x", "c", "do")), (("again", (("make", "x", "b"), call("x", "c"))),)),
            ("again", (("make", "x", "c"),)),
        )
        self.assertEqual(made_paper(program(kinds, (), rows), ("a", "b", "c")), ((MAIN, ("c", "be"), ("c", "do")), ("a", "b", "c")))

    def test_bodies_of_answers(self):
        kinds = (
            kind("a", None, (deed("be"), deed("do"), deed("go"))), kind("b", "a", (deed("be"),)), kind("c", "b"),
            kind("d", "a", (deed("be"), deed("do"))),
        )
        for made, top, word, bodies in (
            (("c",), "a", "be", (("b", "be"),)),
            (("c",), "a", "do", (("a", "do"),)),
            (("b",), "b", "be", (("b", "be"),)),
            (("a",), "a", "be", (("a", "be"),)),
            (("a",), "b", "be", ()),
            (("d",), "b", "do", ()),
            (("a", "c", "d"), "a", "be", (("a", "be"), ("b", "be"), ("d", "be"))),
            (("a", "c", "d"), "b", "be", (("b", "be"),)),
            (("b", "c", "d"), "a", "do", (("a", "do"), ("d", "do"))),
            ((), "a", "be", ()),
        ):
            rows = tuple(("make", "x", name) for name in made) + (call("nowhere", top, word),)
            self.assertEqual(made_paper(program(kinds, (), rows), ("a", "b", "c", "d")), ((MAIN,) + bodies, made))

    def test_bodies_that_nothing_comes_to_make_nothing(self):
        kinds = (
            kind("a", None, (deed("be", (), (("make", "x", "b"),)), deed("do", (), (("make", "x", "c"),)))),
            kind("b", "a"), kind("c", "a", (deed("be", (), (("make", "x", "d"),)),)), kind("d"),
        )
        there = ("a", "b", "c", "d")
        one = program(kinds, (), (("make", "x", "a"), call("x", "a")))
        self.assertEqual(made_paper(one, there), ((MAIN, ("a", "be")), ("a", "b")))
        one = program(kinds, (), (("make", "x", "a"), call("x", "a", "do")))
        self.assertEqual(made_paper(one, there), ((MAIN, ("a", "do")), ("a", "c")))
        one = program(kinds, (), (("make", "x", "a"), call("x", "a"), call("x", "a", "do")))
        self.assertEqual(made_paper(one, there), ((MAIN, ("a", "be"), ("a", "do"), ("c", "be")), ("a", "b", "c", "d")))
        one = program(kinds, (), (call("x", "a"),))
        self.assertEqual(made_paper(one, there), ((MAIN,), ()))

    def test_what_is_made_only_later_counts_for_calls_ahead(self):
        kinds = (
            kind("a", None, (deed("be", (), (("make", "x", "b"),)),)),
            kind("b", "a", (deed("be", (), (("make", "x", "c"),)),)),
            kind("c", "b", (deed("be", (), (("make", "x", "d"),)),)),
            kind("d", "c", (deed("be"),)), kind("e", "d", (deed("be"),)),
        )
        rows = (call("x", "a"), ("make", "x", "a"))
        there = ("a", "b", "c", "d", "e")
        self.assertEqual(made_paper(program(kinds, (), rows), there), (
            (MAIN, ("a", "be"), ("b", "be"), ("c", "be"), ("d", "be")), ("a", "b", "c", "d"),
        ))
        self.assertEqual(made_paper(program(kinds, (), rows), there[:3]), (
            (MAIN, ("a", "be"), ("b", "be"), ("c", "be")), ("a", "b", "c"),
        ))

    def test_calls_in_a_circle_make_nothing_by_themselves(self):
        kinds = (
            kind("a", None, (deed("be", (), (call("own", "b"),)),)),
            kind("b", None, (deed("be", (), (call("own", "a"), ("make", "x", "a"))),)),
        )
        self.assertEqual(made_paper(program(kinds, (), (("say", "hm"),)), ("a", "b")), ((MAIN,), ()))


class ByMadeTest(unittest.TestCase):
    KINDS = (
        kind("a", None, (deed("be"), deed("do", (), (call("own", "a"),)), deed("go", (), (("make", "x", "d"), call("own", "a"))))),
        kind("b", "a"), kind("c", "b"), kind("d", "a"), kind("e", None, (deed("be"),)),
    )
    ALL = ("a", "b", "c", "d", "e")

    def told(self, rows, there=ALL):
        return by_made(program(self.KINDS, (), rows), there)

    def test_kinds_made_below_the_call_s(self):
        rows = (("make", "x", "c"), ("make", "y", "a"), ("make", "z", "e"), call("w", "a"), call("w", "b"), call("w", "d"),
                call("w", "e"), call("z", "a"))
        self.assertEqual(self.told(rows)[:5], ((3, ("a", "c")), (4, ("c",)), (5, ()), (6, ("e",)), (7, ("a", "c"))))

    def test_calls_in_bodies_not_come_to(self):
        rows = (("make", "x", "b"), call("x", "a", "do"))
        self.assertEqual(self.told(rows), ((1, ("b",)), (2, ("b",)), (4, ())))
        rows = (("make", "x", "b"), call("x", "a", "go"))
        self.assertEqual(self.told(rows), ((1, ("b", "d")), (2, ()), (4, ("b", "d"))))
        rows = (("make", "x", "b"), call("x", "a"))
        self.assertEqual(self.told(rows), ((1, ("b",)), (2, ()), (4, ())))
        self.assertEqual(self.told(rows, ("a",)), ((1, ()), (2, ()), (4, ())))

    def test_all_calls_rising(self):
        rows = (("either", (call("x", "a"),), (("again", (call("x", "a", "go"),)),)), ("make", "x", "b"))
        self.assertEqual(self.told(rows), ((1, ("b", "d")), (3, ("b", "d")), (5, ()), (7, ("b", "d"))))

    def test_no_calls(self):
        self.assertEqual(by_made(program(), ("a",)), ())


class ChanceTest(unittest.TestCase):
    def test_as_reckoned_in_another_manner(self):
        for number in range(60):
            one = chance.program(number)
            for there in reckoned.theres(one):
                bodies, kinds = reckoned.made(one, there)
                self.assertEqual(made_paper(one, there), (tuple(sorted(bodies)), tuple(sorted(kinds))))
                self.assertEqual(by_made(one, there), reckoned.told_by_made(one, there))

    def test_same_again_and_nothing_changed(self):
        for there in reckoned.theres(RICH):
            before = copy.deepcopy((RICH, there))
            self.assertEqual(by_made(RICH, there), by_made(RICH, there))
            self.assertEqual(made_paper(RICH, there), made_paper(RICH, there))
            self.assertEqual((RICH, there), before)


if __name__ == "__main__":
    unittest.main()
