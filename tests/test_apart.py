"""By what flows, apart by own's kind."""

import copy
import unittest

import chance
import reckoned
from samples import RICH, deed, kind, program
from surecall.flows import apart_paper, by_apart, by_flow
from why_cases import call

MAIN = ("", "", "")


def main(variable, *kinds):
    return (("of", "", "", "", variable), kinds)


def of(name, word, own, variable, *kinds):
    return (("of", name, word, own, variable), kinds)


def field(name, word, *kinds):
    return (("in", name, word), kinds)


class ApartPaperTest(unittest.TestCase):
    KINDS = (
        kind("a", None, (deed("be"), deed("same", ("p",), (), "p"), deed("self", (), (), "own"))),
        kind("b", "a", (deed("be", (), (("make", "r", "c"),), "r"),)), kind("c", "b"), kind("d", None, (deed("be"),)),
    )
    ALL = ("a", "b", "c", "d")

    def told(self, rows, *holds, bodies=(), there=ALL, kinds=KINDS):
        self.assertEqual(apart_paper(program(kinds, (), rows), there), ((MAIN,) + bodies, holds))

    def test_nothing_flows(self):
        self.told(())
        self.told((call("x", "a"),))

    def test_rows_of_main(self):
        rows = (("make", "x", "a"), ("make", "y", "b"), ("copy", "y", "x"), ("put", "y", "f", "x"), ("take", "z", "x", "f"))
        self.told(rows, field("a", "f", "a"), field("b", "f", "a"), main("x", "a"), main("y", "a", "b"), main("z", "a"))
        self.told((("make", "x", "a"),), there=())

    def test_one_body_with_two_kinds_as_own(self):
        rows = (
            ("make", "x", "b"), ("make", "y", "d"), ("make", "z", "c"),
            ("call", "u", "x", "a", "same", ("y",)), ("call", "v", "z", "a", "same", ("x",)),
        )
        self.told(rows, main("u", "d"), main("v", "b"), main("x", "b"), main("y", "d"), main("z", "c"),
                  of("a", "same", "b", "own", "b"), of("a", "same", "b", "p", "d"),
                  of("a", "same", "c", "own", "c"), of("a", "same", "c", "p", "b"),
                  bodies=(("a", "same", "b"), ("a", "same", "c")))

    def test_the_same_own_from_two_calls_comes_together(self):
        rows = (
            ("make", "x", "b"), ("make", "y", "d"),
            ("call", "u", "x", "a", "same", ("y",)), ("call", "v", "x", "a", "same", ("x",)),
        )
        self.told(rows, main("u", "b", "d"), main("v", "b", "d"), main("x", "b"), main("y", "d"),
                  of("a", "same", "b", "own", "b"), of("a", "same", "b", "p", "b", "d"), bodies=(("a", "same", "b"),))

    def test_x_holds_what_gives_does_of_each_kind_that_y_holds(self):
        rows = (("make", "x", "a"), ("make", "x", "c"), ("make", "x", "d"), ("call", "u", "x", "a", "self", ()))
        self.told(rows, main("u", "a", "c"), main("x", "a", "c", "d"), of("a", "self", "a", "own", "a"),
                  of("a", "self", "c", "own", "c"), bodies=(("a", "self", "a"), ("a", "self", "c")))

    def test_the_body_of_the_answer(self):
        rows = (("make", "x", "c"), ("call", "u", "x", "a", "be", ()))
        self.told(rows, main("u", "c"), main("x", "c"), of("b", "be", "c", "own", "c"), of("b", "be", "c", "r", "c"),
                  bodies=(("b", "be", "c"),))
        rows = (("make", "x", "a"), call("x", "b"))
        self.told(rows, main("x", "a"))

    def test_a_make_in_a_body_not_come_to(self):
        self.told((("make", "x", "a"), call("x", "a")), main("x", "a"), of("a", "be", "a", "own", "a"), bodies=(("a", "be", "a"),))

    def test_a_field_is_one_for_all(self):
        kinds = (kind("a", None, (deed("set", ("p", "q"), (("put", "p", "f", "q"),)), deed("get", ("p",), (("take", "r", "p", "f"),), "r"))),
                 kind("b", "a"), kind("c", "a"))
        rows = (
            ("make", "x", "a"), ("make", "y", "b"), ("make", "z", "c"), call("y", "a", "set", ("x", "y")),
            call("z", "a", "set", ("x", "z")), ("call", "u", "y", "a", "get", ("x",)),
        )
        self.told(rows, field("a", "f", "b", "c"), main("u", "b", "c"), main("x", "a"), main("y", "b"), main("z", "c"),
                  of("a", "get", "b", "own", "b"), of("a", "get", "b", "p", "a"), of("a", "get", "b", "r", "b", "c"),
                  of("a", "set", "b", "own", "b"), of("a", "set", "b", "p", "a"), of("a", "set", "b", "q", "b"),
                  of("a", "set", "c", "own", "c"), of("a", "set", "c", "p", "a"), of("a", "set", "c", "q", "c"),
                  bodies=(("a", "get", "b"), ("a", "set", "b"), ("a", "set", "c")), kinds=kinds, there=("a", "b", "c"))

    def test_fields_of_own_s_kind(self):
        kinds = (kind("a", None, (deed("get", (), (("take", "r", "own", "f"),), "r"), deed("be"))), kind("b", "a"), kind("c", "a"))
        rows = (
            ("make", "x", "b"), ("make", "y", "c"), ("put", "x", "f", "x"), ("put", "y", "f", "y"),
            ("call", "u", "x", "a", "get", ()), ("call", "v", "y", "a", "get", ()), call("u", "a"),
        )
        self.told(rows, field("b", "f", "b"), field("c", "f", "c"), main("u", "b"), main("v", "c"), main("x", "b"), main("y", "c"),
                  of("a", "be", "b", "own", "b"), of("a", "get", "b", "own", "b"), of("a", "get", "b", "r", "b"),
                  of("a", "get", "c", "own", "c"), of("a", "get", "c", "r", "c"),
                  bodies=(("a", "be", "b"), ("a", "get", "b"), ("a", "get", "c")), kinds=kinds, there=("a", "b", "c"))
        self.assertEqual(dict(by_apart(program(kinds, (), rows), ("a", "b", "c")))[6], ("b",))
        self.assertEqual(dict(by_flow(program(kinds, (), rows), ("a", "b", "c")))[6], ("b", "c"))


class ByApartTest(unittest.TestCase):
    def test_of_all_own_s_kinds_together(self):
        inner = (call("p", "a"), call("own", "a"), call("own", "b"), call("p", "d"))
        kinds = (kind("a", None, (deed("do", ("p",), inner), deed("be"))), kind("b", "a"), kind("c", "a"), kind("d", None, (deed("be"),)))
        rows = (
            ("make", "x", "a"), ("make", "y", "b"), ("make", "z", "c"), ("make", "u", "d"),
            call("y", "a", "do", ("x",)), call("z", "a", "do", ("y",)), call("x", "a", "do", ("u",)),
        )
        self.assertEqual(by_apart(program(kinds, (), rows), ("a", "b", "c", "d")), (
            (4, ("b",)), (5, ("c",)), (6, ("a",)), (7, ("a", "b")), (8, ("a", "b", "c")), (9, ("b",)), (10, ("d",)),
        ))
        self.assertEqual(by_apart(program(kinds, (), rows), ("a", "b")), (
            (4, ("b",)), (5, ()), (6, ("a",)), (7, ("a",)), (8, ("a", "b")), (9, ("b",)), (10, ()),
        ))

    def test_calls_in_bodies_not_come_to(self):
        kinds = (kind("a", None, (deed("do", (), (("make", "x", "a"), call("x", "a"))), deed("be"))),)
        self.assertEqual(by_apart(program(kinds, (), (("make", "x", "a"), call("x", "a"))), ("a",)), ((1, ("a",)), (3, ())))
        self.assertEqual(by_apart(program(kinds, (), (("make", "x", "a"), call("x", "a", "do"))), ("a",)), ((1, ("a",)), (3, ("a",))))

    def test_finer_than_the_flow_way(self):
        kinds = (kind("a", None, (deed("same", ("p",), (), "p"), deed("be"))), kind("b", "a"), kind("c", "a"))
        rows = (
            ("make", "x", "b"), ("make", "y", "c"), ("call", "u", "x", "a", "same", ("x",)),
            ("call", "v", "y", "a", "same", ("y",)), call("u", "a"), call("v", "a"),
        )
        one = program(kinds, (), rows)
        self.assertEqual(by_apart(one, ("a", "b", "c")), ((2, ("b",)), (3, ("c",)), (4, ("b",)), (5, ("c",))))
        self.assertEqual(by_flow(one, ("a", "b", "c")), ((2, ("b",)), (3, ("c",)), (4, ("b", "c")), (5, ("b", "c"))))

    def test_no_calls(self):
        self.assertEqual(by_apart(program(), ("a",)), ())


class ChanceTest(unittest.TestCase):
    def test_as_reckoned_in_another_manner(self):
        for number in range(60):
            one = chance.program(number)
            for kinds in reckoned.theres(one):
                bodies, holds = reckoned.flow(one, kinds, True)
                held = {spot: tuple(sorted(name for at, name in holds if at == spot)) for spot, name in holds}
                self.assertEqual(apart_paper(one, kinds), (tuple(sorted(bodies)), tuple(sorted(held.items()))))
                self.assertEqual(by_apart(one, kinds), reckoned.told_by_flow(one, kinds, True))

    def test_same_again_and_nothing_changed(self):
        for kinds in reckoned.theres(RICH):
            before = copy.deepcopy((RICH, kinds))
            self.assertEqual(by_apart(RICH, kinds), by_apart(RICH, kinds))
            self.assertEqual(apart_paper(RICH, kinds), apart_paper(RICH, kinds))
            self.assertEqual((RICH, kinds), before)


if __name__ == "__main__":
    unittest.main()
