"""Why a kind may stand at a call: what why tells."""

import copy
import unittest

import chance
import reckoned
from samples import RICH, deed, kind, program
from surecall.whys import why
from why_cases import CASES, MAIN, call, main_holds, there, whole


class CaseTest(unittest.TestCase):
    def test_each_way_to_hold(self):
        for case in CASES:
            steps = why(whole(case), there(case), case[3], case[4])
            self.assertEqual(sorted(steps, key=repr), sorted(case[5], key=repr), case[0])
            self.assertEqual(steps[-1], case[5][-1], case[0])
            self.assertTrue(reckoned.is_why(whole(case), there(case), case[3], case[4], steps), case[0])

    def test_the_call_s_body_is_among_the_facts_where_a_param_holds_it(self):
        case = [case for case in CASES if case[0] == "params"][0]
        steps = why(whole(case), there(case), case[3], case[4])
        self.assertIn(("body", ("a", "do")), [fact for fact, number in steps])

    def test_of_another_kind_none(self):
        for case in CASES:
            told = dict(reckoned.told_by_flow(whole(case), there(case)))
            for name in there(case):
                if name not in told[case[3]]:
                    self.assertIsNone(why(whole(case), there(case), case[3], name), case[0])

    def test_with_no_kinds_there_none(self):
        for case in CASES:
            self.assertIsNone(why(whole(case), (), case[3], case[4]), case[0])


class NoneTest(unittest.TestCase):
    ONE = (
        kind("a", None, (deed("be"), deed("do", ("p",), (("make", "r", "b"), call("own", "a"), call("p", "b")), None))),
        kind("b", "a"),
        kind("c", None, (deed("be", (), (("make", "r", "c"), call("r", "c"))),)),
    )

    def told(self, rows, number, name, kinds=("a", "b", "c")):
        return why(program(self.ONE, (), rows), kinds, number, name)

    def test_held_but_not_below_the_call_s(self):
        for name in "abc":
            rows = (("make", "x", name), call("x", "b"))
            self.assertEqual(self.told(rows, 1, name) is None, name != "b")

    def test_calls_in_bodies_not_come_to(self):
        rows = (("make", "x", "a"), call("x", "a"))
        # The deed do is done nowhere, the deed be of c neither.
        for number in (3, 4, 6):
            for name in "abc":
                self.assertIsNone(self.told(rows, number, name))
        self.assertIsNone(self.told((("make", "x", "c"), call("x", "a")), 6, "c"))
        self.assertIsNotNone(self.told((("make", "x", "c"), call("x", "c")), 6, "c"))

    def test_a_make_in_a_body_not_come_to(self):
        self.assertIsNone(self.told((("take", "x", "y", "f"), call("x", "a")), 1, "b"))

    def test_what_gives_none_gives(self):
        rows = (("make", "x", "a"), call("x", "a", "do", ("x",), "z"), call("z", "a"))
        for name in "abc":
            self.assertIsNone(self.told(rows, 2, name))

    def test_a_kind_that_is_not_there(self):
        rows = (("make", "x", "b"), call("x", "a"))
        self.assertEqual(self.told(rows, 1, "b"), ((MAIN, None), (main_holds("x", "b"), 0)))
        self.assertIsNone(self.told(rows, 1, "b", ("a", "c")))
        self.assertIsNone(self.told(rows, 1, "b", ()))

    def test_one_of_late_kinds_that_is_there(self):
        one = program((kind("a", None, (deed("be"),)),), ("a",), (("make", "x", "a"), call("x", "a")))
        self.assertIsNotNone(why(one, ("a",), 1, "a"))
        self.assertIsNone(why(one, (), 1, "a"))

    def test_what_a_variable_of_the_same_name_holds_elsewhere(self):
        inner = (deed("be"), deed("do", (), (call("x", "a"),)))
        one = program((kind("a", None, inner),), (), (("make", "x", "a"), call("x", "a", "do")))
        self.assertIsNone(why(one, ("a",), 2, "a"))

    def test_a_field_of_another_name_or_kind(self):
        kinds = (kind("a", None, (deed("be"),)), kind("b", "a"))
        for taken, field, told in (("x", "f", True), ("x", "g", False), ("y", "f", False)):
            rows = (("make", "x", "a"), ("make", "y", "b"), ("put", "x", "f", "y"), ("take", "z", taken, field), call("z", "a"))
            self.assertEqual(why(program(kinds, (), rows), ("a", "b"), 4, "b") is not None, told)


class ChanceTest(unittest.TestCase):
    def test_steps_as_the_document_says(self):
        many = 0
        for number in range(120):
            one = chance.program(number)
            for kinds in (reckoned.there_at_first(one), tuple(reckoned.all_kinds(one))):
                for at, told in reckoned.told_by_flow(one, kinds):
                    for name in told:
                        steps = why(one, kinds, at, name)
                        self.assertTrue(reckoned.is_why(one, kinds, at, name, steps), (number, kinds, at, name))
                        self.assertEqual(len({fact for fact, by in steps}), len(steps))
                        many += 1
        self.assertGreater(many, 500)

    def test_what_it_is_made_of(self):
        for case in CASES:
            steps = why(whole(case), there(case), case[3], case[4])
            self.assertIsInstance(steps, tuple)
            for step in steps:
                self.assertIsInstance(step, tuple)
                self.assertEqual(len(step), 2)
                self.assertIsInstance(step[0], tuple)
                self.assertIsInstance(step[0][1], tuple)
                self.assertIs(step[1] is None, step[0] == MAIN)
                self.assertNotIsInstance(step[1], bool)

    def test_same_again_and_nothing_changed(self):
        kinds = tuple(reckoned.all_kinds(RICH))
        before = copy.deepcopy((RICH, kinds))
        for number, told in reckoned.told_by_flow(RICH, kinds):
            for name in kinds:
                self.assertEqual(why(RICH, kinds, number, name), why(RICH, kinds, number, name))
        self.assertEqual((RICH, kinds), before)


if __name__ == "__main__":
    unittest.main()
