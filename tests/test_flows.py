"""By what flows: which bodies are come to, what spots hold, and what is told for a call."""

import copy
import unittest

import chance
import reckoned
from samples import RICH, deed, kind, program
from surecall.flows import by_flow, flow_paper
from why_cases import CASES, call, there, whole

MAIN = ("", "")


def main(variable, *kinds):
    return (("of", "", "", variable), kinds)


def of(name, word, variable, *kinds):
    return (("of", name, word, variable), kinds)


def field(name, word, *kinds):
    return (("in", name, word), kinds)


class FlowPaperTest(unittest.TestCase):
    KINDS = (
        kind("a", None, (deed("be"), deed("do", ("p", "q"), (), "q"))),
        kind("b", "a", (deed("be", (), (), "own"),)), kind("c", "b"), kind("d", None, (deed("be"),)),
    )
    ALL = ("a", "b", "c", "d")

    def told(self, rows, *holds, bodies=(), there=ALL, kinds=KINDS, late=()):
        self.assertEqual(flow_paper(program(kinds, late, rows), there), ((MAIN,) + bodies, holds))

    def test_nothing_flows(self):
        self.told(())
        self.told((("say", "hm"), ("copy", "x", "y"), ("put", "x", "f", "y"), ("take", "x", "y", "f"), call("x", "a")))

    def test_make(self):
        self.told((("make", "x", "c"),), main("x", "c"))
        self.told((("make", "y", "c"), ("make", "y", "a"), ("make", "x", "d")), main("x", "d"), main("y", "a", "c"))

    def test_make_of_a_kind_that_is_not_there(self):
        rows = (("bring", "c"), ("make", "x", "c"), ("make", "y", "b"), ("make", "y", "a"))
        self.told(rows, main("y", "a", "b"), there=("a", "b", "d"), late=("c",))
        self.told(rows, main("y", "a"), there=("a",), late=("c",))
        self.told(rows, main("x", "c"), main("y", "a", "b"), late=("c",))
        self.told(rows, there=())

    def test_copy(self):
        self.told((("make", "x", "a"), ("copy", "y", "x"), ("make", "y", "b")), main("x", "a"), main("y", "a", "b"))

    def test_rows_in_whatever_order(self):
        rows = (("copy", "z", "y"), ("copy", "y", "x"), ("make", "x", "a"))
        self.told(rows, main("x", "a"), main("y", "a"), main("z", "a"))
        rows = (("take", "z", "y", "f"), ("put", "x", "f", "w"), ("copy", "y", "x"), ("make", "x", "a"), ("make", "w", "b"))
        self.told(rows, field("a", "f", "b"), main("w", "b"), main("x", "a"), main("y", "a"), main("z", "b"))

    def test_put(self):
        rows = (("make", "x", "a"), ("make", "x", "b"), ("make", "y", "c"), ("make", "y", "d"), ("put", "x", "f", "y"))
        self.told(rows, field("a", "f", "c", "d"), field("b", "f", "c", "d"), main("x", "a", "b"), main("y", "c", "d"))
        self.told((("make", "x", "a"), ("put", "x", "f", "y")), main("x", "a"))
        self.told((("make", "y", "a"), ("put", "x", "f", "y")), main("y", "a"))
        self.told((("make", "x", "a"), ("put", "x", "f", "x"), ("put", "x", "g", "x")),
                  field("a", "f", "a"), field("a", "g", "a"), main("x", "a"))

    def test_take(self):
        rows = (
            ("make", "x", "a"), ("make", "y", "b"), ("put", "x", "f", "y"), ("put", "y", "f", "x"), ("put", "y", "g", "y"),
            ("take", "v", "x", "f"), ("take", "w", "y", "g"), ("take", "z", "x", "g"),
        )
        self.told(rows, field("a", "f", "b"), field("b", "f", "a"), field("b", "g", "b"),
                  main("v", "b"), main("w", "b"), main("x", "a"), main("y", "b"))

    def test_take_of_each_kind_that_y_holds(self):
        rows = (
            ("make", "x", "a"), ("make", "y", "b"), ("make", "u", "c"), ("make", "v", "d"), ("put", "x", "f", "u"),
            ("put", "y", "f", "v"), ("copy", "w", "x"), ("copy", "w", "y"), ("take", "z", "w", "f"),
        )
        self.told(rows, field("a", "f", "c"), field("b", "f", "d"), main("u", "c"), main("v", "d"),
                  main("w", "a", "b"), main("x", "a"), main("y", "b"), main("z", "c", "d"))

    def test_a_field_is_no_elder_s(self):
        rows = (("make", "x", "a"), ("make", "y", "b"), ("put", "x", "f", "x"), ("take", "z", "y", "f"))
        self.told(rows, field("a", "f", "a"), main("x", "a"), main("y", "b"))

    def test_call_own_and_the_body_of_the_answer(self):
        for name, answer in (("a", "a"), ("b", "b"), ("c", "b")):
            self.told((("make", "x", name), ("call", "x", "x", "a", "be", ())),
                      main("x", name), of(answer, "be", "own", name), bodies=((answer, "be"),))

    def test_call_of_several_kinds(self):
        rows = (("make", "x", "a"), ("make", "x", "b"), ("make", "x", "c"), ("make", "x", "d"), ("call", "y", "x", "a", "be", ()))
        self.told(rows, main("x", "a", "b", "c", "d"), main("y", "b", "c"), of("a", "be", "own", "a"),
                  of("b", "be", "own", "b", "c"), bodies=(("a", "be"), ("b", "be")))

    def test_call_of_kinds_that_are_not_below(self):
        self.told((("make", "x", "a"), ("make", "x", "d"), call("x", "b")), main("x", "a", "d"))

    def test_params_and_gives(self):
        rows = (("make", "x", "a"), ("make", "y", "b"), ("make", "z", "d"), ("call", "w", "x", "a", "do", ("y", "z")))
        self.told(rows, main("w", "d"), main("x", "a"), main("y", "b"), main("z", "d"), of("a", "do", "own", "a"),
                  of("a", "do", "p", "b"), of("a", "do", "q", "d"), bodies=(("a", "do"),))

    def test_params_where_y_holds_nothing(self):
        self.told((("make", "y", "b"), ("call", "w", "x", "a", "do", ("y", "y"))), main("y", "b"))

    def test_params_of_all_calls_come_together(self):
        rows = (("make", "x", "a"), ("make", "y", "b"), ("call", "w", "x", "a", "do", ("x", "x")),
                ("call", "v", "x", "a", "do", ("y", "y")))
        self.told(rows, main("v", "a", "b"), main("w", "a", "b"), main("x", "a"), main("y", "b"), of("a", "do", "own", "a"),
                  of("a", "do", "p", "a", "b"), of("a", "do", "q", "a", "b"), bodies=(("a", "do"),))

    def test_params_of_each_answer(self):
        kinds = (kind("a", None, (deed("do", ("p", "q"), (), "p"),)), kind("b", "a", (deed("do", ("q", "r"), (), "q"),)))
        rows = (("make", "x", "a"), ("make", "x", "b"), ("make", "y", "b"), ("call", "w", "x", "a", "do", ("x", "y")))
        self.told(rows, main("w", "a", "b"), main("x", "a", "b"), main("y", "b"),
                  of("a", "do", "own", "a"), of("a", "do", "p", "a", "b"), of("a", "do", "q", "b"),
                  of("b", "do", "own", "b"), of("b", "do", "q", "a", "b"), of("b", "do", "r", "b"),
                  bodies=(("a", "do"), ("b", "do")), kinds=kinds, there=("a", "b"))

    def test_gives_of_none_own_and_a_variable(self):
        for gives, holds in ((None, ()), ("own", (main("w", "a"),)), ("r", (main("w", "b"),)), ("s", ()), ("p", (main("w", "a"),))):
            kinds = (kind("a", None, (deed("do", ("p",), (("make", "r", "b"),), gives),)), kind("b"))
            rows = (("make", "x", "a"), ("call", "w", "x", "a", "do", ("x",)))
            self.told(rows, *holds, main("x", "a"), of("a", "do", "own", "a"), of("a", "do", "p", "a"), of("a", "do", "r", "b"),
                      bodies=(("a", "do"),), kinds=kinds, there=("a", "b"))

    def test_rows_of_bodies_not_come_to(self):
        kinds = (kind("a", None, (deed("do", (), (("make", "r", "a"), call("r", "a"), ("put", "r", "f", "r")), "r"), deed("be"))),)
        self.told((("make", "x", "a"), call("x", "a")), main("x", "a"), of("a", "be", "own", "a"),
                  bodies=(("a", "be"),), kinds=kinds, there=("a",))
        self.told((call("x", "a", "do"),), kinds=kinds, there=("a",))

    def test_rows_within_either_and_again(self):
        rows = (
            ("either", (("make", "x", "a"),), (("again", (("make", "x", "b"), ("again", (("copy", "y", "x"),)))),)),
            ("again", (("copy", "z", "y"),)),
        )
        self.told(rows, main("x", "a", "b"), main("y", "a", "b"), main("z", "a", "b"))

    def test_a_variable_is_one_of_its_body(self):
        kinds = (kind("a", None, (deed("do", (), (("copy", "y", "x"),), "y"),)),)
        self.told((("make", "x", "a"), ("call", "y", "x", "a", "do", ())), main("x", "a"), of("a", "do", "own", "a"),
                  bodies=(("a", "do"),), kinds=kinds, there=("a",))

    def test_calls_of_itself(self):
        rows = (("make", "r", "b"), ("call", "s", "p", "a", "do", ("own",)), ("call", "s", "own", "a", "do", ("r",)))
        kinds = (kind("a", None, (deed("do", ("p",), rows, "p"),)), kind("b", "a"))
        self.told((("make", "x", "a"), ("call", "y", "x", "a", "do", ("x",))), main("x", "a"), main("y", "a", "b"),
                  of("a", "do", "own", "a", "b"), of("a", "do", "p", "a", "b"), of("a", "do", "r", "b"),
                  of("a", "do", "s", "a", "b"), bodies=(("a", "do"),), kinds=kinds, there=("a", "b"))


class ByFlowTest(unittest.TestCase):
    def test_what_y_holds_below_the_call_s(self):
        kinds = (kind("a", None, (deed("be"),)), kind("b", "a"), kind("c", "b"), kind("d", None, (deed("be"),)))
        rows = (("make", "x", "c"), ("make", "x", "a"), ("make", "x", "d"), ("make", "y", "b"),
                call("x", "a"), call("x", "b"), call("x", "c"), call("x", "d"), call("y", "a"), call("y", "d"), call("z", "a"))
        self.assertEqual(by_flow(program(kinds, (), rows), ("a", "b", "c", "d")), (
            (4, ("a", "c")), (5, ("c",)), (6, ("c",)), (7, ("d",)), (8, ("b",)), (9, ()), (10, ()),
        ))
        self.assertEqual(by_flow(program(kinds, (), rows), ("a", "b")), (
            (4, ("a",)), (5, ()), (6, ()), (7, ()), (8, ("b",)), (9, ()), (10, ()),
        ))

    def test_calls_in_bodies_not_come_to(self):
        inner = (("make", "x", "a"), call("x", "a"), call("own", "a"))
        kinds = (kind("a", None, (deed("be"), deed("do", (), inner))), kind("b", "a"))
        self.assertEqual(by_flow(program(kinds, (), (("make", "x", "b"), call("x", "a"))), ("a", "b")), (
            (1, ("b",)), (3, ()), (4, ()),
        ))
        self.assertEqual(by_flow(program(kinds, (), (("make", "x", "b"), call("x", "a", "do"))), ("a", "b")), (
            (1, ("b",)), (3, ("a",)), (4, ("b",)),
        ))

    def test_all_calls_rising(self):
        kinds = (kind("a", None, (deed("be"),)),)
        rows = (("either", (call("x", "a"),), (("again", (call("y", "a"),)),)), ("make", "x", "a"), call("x", "a"))
        self.assertEqual(by_flow(program(kinds, (), rows), ("a",)), ((1, ("a",)), (3, ()), (5, ("a",))))

    def test_no_calls(self):
        self.assertEqual(by_flow(program(), ("a",)), ())

    def test_what_each_small_program_shows(self):
        for case in CASES:
            self.assertIn(case[4], dict(by_flow(whole(case), there(case)))[case[3]], case[0])
            self.assertEqual(dict(by_flow(whole(case), ()))[case[3]], (), case[0])


class ChanceTest(unittest.TestCase):
    def test_as_reckoned_in_another_manner(self):
        for number in range(60):
            one = chance.program(number)
            for kinds in reckoned.theres(one):
                bodies, holds = reckoned.flow(one, kinds)
                held = {spot: tuple(sorted(name for at, name in holds if at == spot)) for spot, name in holds}
                self.assertEqual(flow_paper(one, kinds), (tuple(sorted(bodies)), tuple(sorted(held.items()))))
                self.assertEqual(by_flow(one, kinds), reckoned.told_by_flow(one, kinds))

    def test_same_again_and_nothing_changed(self):
        for kinds in reckoned.theres(RICH):
            before = copy.deepcopy((RICH, kinds))
            self.assertEqual(by_flow(RICH, kinds), by_flow(RICH, kinds))
            self.assertEqual(flow_paper(RICH, kinds), flow_paper(RICH, kinds))
            self.assertEqual((RICH, kinds), before)


if __name__ == "__main__":
    unittest.main()
