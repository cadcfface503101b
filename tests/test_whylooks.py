"""Whether anything shows why a kind may stand at a call."""

import copy
import random
import unittest

import chance
import reckoned
from samples import deed, kind, program
from surecall.whylooks import shows_why
from surecall.whys import why
from things import Unkind, nested_things, part_at, paths, plain_things, replaced, strange_tuples
from why_cases import CASES, MAIN, call, field_holds, holds, main_holds, there, whole


class CaseTest(unittest.TestCase):
    def shown(self, case, steps, kinds=None, number=None, name=None):
        kinds = there(case) if kinds is None else kinds
        number = case[3] if number is None else number
        told = shows_why(whole(case), kinds, number, case[4] if name is None else name, steps)
        self.assertIsInstance(told, bool)
        return told

    def test_the_steps(self):
        for case in CASES:
            self.assertIs(self.shown(case, case[5]), True, case[0])

    def test_what_why_tells(self):
        for case in CASES:
            self.assertIs(self.shown(case, why(whole(case), there(case), case[3], case[4])), True, case[0])

    def test_one_left_out(self):
        for case in CASES:
            for at in range(len(case[5])):
                self.assertIs(self.shown(case, case[5][:at] + case[5][at + 1:]), False, (case[0], at))
                self.assertIs(self.shown(case, case[5][:at]), False, (case[0], at))

    def test_one_by_another_row(self):
        for case in CASES:
            rows = reckoned.rows_by_number(whole(case))
            for at, (fact, number) in enumerate(case[5]):
                for other in [None, -1, -len(rows), len(rows), 10 ** 30] + list(range(len(rows))):
                    if other != number:
                        steps = case[5][:at] + ((fact, other),) + case[5][at + 1:]
                        self.assertIs(self.shown(case, steps), False, (case[0], at, other))

    def test_one_of_another_kind_spot_or_body(self):
        words = ("", "a", "b", "c", "do", "be", "f", "p", "x", "own", "of", "in", "body", "holds", "A", "no", "\ud800")
        for case in CASES:
            for path in paths(case[5]):
                part = part_at(case[5], path)
                for word in words:
                    if isinstance(part, str) and word != part:
                        self.assertIs(self.shown(case, replaced(case[5], path, word)), False, (case[0], path, word))

    def test_in_another_order(self):
        for case in CASES:
            self.assertIs(self.shown(case, case[5][::-1]), False, case[0])
            for at in range(len(case[5])):
                steps = case[5][:at] + case[5][at + 1:] + case[5][at:at + 1]
                self.assertIs(self.shown(case, steps), at == len(case[5]) - 1, (case[0], at))

    def test_a_fact_twice(self):
        for case in CASES:
            last = case[5][-1:]
            for at in range(len(case[5])):
                self.assertIs(self.shown(case, case[5][:at + 1] + case[5][at:]), True, case[0])
                self.assertIs(self.shown(case, case[5] + case[5][at:at + 1] + last), True, case[0])
            self.assertIs(self.shown(case, case[5] + case[5]), True, case[0])

    def test_more_behind_the_last(self):
        for case in CASES:
            self.assertIs(self.shown(case, case[5] + case[5][:1]), False, case[0])

    def test_asked_of_another_call_or_kind(self):
        for case in CASES:
            for number, told in reckoned.told_by_flow(whole(case), there(case)):
                for name in there(case):
                    same = (number, name) == (case[3], case[4])
                    self.assertIs(self.shown(case, case[5], None, number, name), same, (case[0], number, name))

    def test_with_fewer_kinds_there(self):
        for case in CASES:
            self.assertIs(self.shown(case, case[5], ()), False, case[0])
            for name in there(case):
                kinds = tuple(one for one in there(case) if one != name)
                by = [number for fact, number in case[5]]
                needed = [row[2] for at, (body, row) in enumerate(reckoned.rows_by_number(whole(case)))
                          if at in by and row[0] == "make"]
                self.assertIs(self.shown(case, case[5], kinds), name not in needed, (case[0], name))

    def test_no_steps(self):
        for case in CASES:
            self.assertIs(self.shown(case, ()), False)
            self.assertIs(self.shown(case, case[5][:1]), False)
            self.assertIs(self.shown(case, None), False)

    def test_the_steps_of_another_case(self):
        for case in CASES:
            for other in CASES:
                expected = reckoned.is_why(whole(case), there(case), case[3], case[4], other[5]) \
                    if all(by is None or by < len(reckoned.rows_by_number(whole(case))) for fact, by in other[5]) else False
                self.assertIs(self.shown(case, other[5]), expected)


class RowTest(unittest.TestCase):
    KINDS = (
        kind("a", None, (deed("be"), deed("do", ("p",), (call("own", "a"), call("p", "a")), "p"))),
        kind("b", "a"),
        kind("c", None, (deed("be"),)),
    )

    def shown(self, rows, number, name, *steps, kinds=("a", "b", "c")):
        return shows_why(program(self.KINDS, (), rows), kinds, number, name, ((MAIN, None),) + steps)

    def test_held_but_not_below_the_call_s(self):
        for name in "abc":
            rows = (("make", "x", name), call("x", "b"))
            self.assertIs(self.shown(rows, 1, name, (main_holds("x", name), 0)), name == "b")

    def test_no_body_by_a_kind_that_is_not_below(self):
        rows = (("make", "x", "a"), call("x", "b", "do", ("x",)))
        steps = ((main_holds("x", "a"), 0), (("body", ("a", "do")), 1), (holds(("a", "do"), "own", "a"), 1))
        self.assertIs(self.shown(rows, 2, "a", *steps), False)

    def test_own_holds_the_kind_that_y_does(self):
        rows = (("make", "x", "a"), ("make", "y", "b"), call("y", "a", "do", ("x",)))
        steps = ((main_holds("x", "a"), 0), (main_holds("y", "b"), 1), (("body", ("a", "do")), 2))
        self.assertIs(self.shown(rows, 3, "b", *steps, (holds(("a", "do"), "own", "b"), 2)), True)
        self.assertIs(self.shown(rows, 3, "a", *steps, (holds(("a", "do"), "own", "a"), 2)), False)
        self.assertIs(self.shown(rows, 4, "a", *steps, (holds(("a", "do"), "p", "a"), 2)), True)
        self.assertIs(self.shown(rows, 4, "b", *steps, (holds(("a", "do"), "p", "b"), 2)), False)

    def test_the_call_s_body_must_be_among_them(self):
        rows = (("make", "x", "a"), call("x", "a", "do", ("x",)))
        last = (holds(("a", "do"), "p", "a"), 1)
        self.assertIs(self.shown(rows, 3, "a", (main_holds("x", "a"), 0), last), False)
        self.assertIs(self.shown(rows, 3, "a", (main_holds("x", "a"), 0), (("body", ("a", "do")), 1), last), True)

    def test_a_param_by_its_own_arg_alone(self):
        kinds = (kind("a", None, (deed("be"), deed("do", ("p", "q"), (call("p", "a"),)))), kind("b", "a"))
        one = program(kinds, (), (("make", "x", "a"), ("make", "y", "b"), call("x", "a", "do", ("x", "y"))))
        steps = (
            (MAIN, None), (main_holds("x", "a"), 0), (main_holds("y", "b"), 1), (("body", ("a", "do")), 2),
        )
        self.assertIs(shows_why(one, ("a", "b"), 3, "a", steps + ((holds(("a", "do"), "p", "a"), 2),)), True)
        self.assertIs(shows_why(one, ("a", "b"), 3, "b", steps + ((holds(("a", "do"), "p", "b"), 2),)), False)

    def test_steps_that_are_not_needed_must_stand_too(self):
        rows = (("make", "x", "a"), ("make", "y", "c"), call("x", "a"))
        last = (main_holds("x", "a"), 0)
        self.assertIs(self.shown(rows, 2, "a", (main_holds("y", "c"), 1), last), True)
        self.assertIs(self.shown(rows, 2, "a", (main_holds("y", "b"), 1), last), False)
        self.assertIs(self.shown(rows, 2, "a", (main_holds("y", "c"), 0), last), False)
        self.assertIs(self.shown(rows, 2, "a", (("body", ("a", "be")), 2), last), False)
        self.assertIs(self.shown(rows, 2, "a", last, (("body", ("a", "be")), 2), last), True)
        self.assertIs(self.shown(rows, 2, "a", (main_holds("y", "c"), 1), last, kinds=("a",)), False)

    def test_each_need_of_put_and_take(self):
        rows = (
            ("make", "x", "a"), ("make", "y", "b"), ("put", "x", "f", "y"), ("make", "z", "c"), ("put", "z", "g", "y"),
            ("take", "v", "x", "f"), call("v", "a"),
        )
        x, y, z = (main_holds("x", "a"), 0), (main_holds("y", "b"), 1), (main_holds("z", "c"), 3)
        field, other, last = (field_holds("a", "f", "b"), 2), (field_holds("c", "g", "b"), 4), (main_holds("v", "b"), 5)
        self.assertIs(self.shown(rows, 6, "b", x, y, field, last), True)
        self.assertIs(self.shown(rows, 6, "b", x, y, z, field, other, last), True)
        self.assertIs(self.shown(rows, 6, "b", x, y, z, other, last), False)
        self.assertIs(self.shown(rows, 6, "b", x, field, last), False)
        self.assertIs(self.shown(rows, 6, "b", y, field, x, last), False)

    def test_no_steps_by_rows_that_let_nothing_stand(self):
        rows = (("say", "a"), ("either", (), ()), ("again", ()), ("make", "x", "a"), call("x", "a"))
        for number in (0, 1, 2):
            self.assertIs(self.shown(rows, 4, "a", (main_holds("x", "a"), number)), False)
        self.assertIs(self.shown(rows, 4, "a", (main_holds("x", "a"), 3)), True)

    def test_a_bring_lets_nothing_stand(self):
        one = program((kind("a", None, (deed("be"),)),), ("a",), (("bring", "a"), ("make", "x", "a"), call("x", "a")))
        self.assertIs(shows_why(one, ("a",), 2, "a", ((MAIN, None), (main_holds("x", "a"), 0))), False)
        self.assertIs(shows_why(one, ("a",), 2, "a", ((MAIN, None), (main_holds("x", "a"), 1))), True)

    def test_by_either_of_two_rows(self):
        rows = (("make", "x", "a"), ("make", "x", "a"), call("x", "a"))
        for number, told in ((0, True), (1, True), (2, False)):
            self.assertIs(self.shown(rows, 2, "a", (main_holds("x", "a"), number)), told)


class ChanceTest(unittest.TestCase):
    def test_steps_changed_in_one_place(self):
        pick = random.Random(7)
        found = {True: 0, False: 0}
        for number in range(60):
            one = chance.program(number)
            kinds = tuple(reckoned.all_kinds(one))
            rows = len(reckoned.rows_by_number(one))
            for at, told in reckoned.told_by_flow(one, kinds):
                for name in told:
                    steps = why(one, kinds, at, name)
                    self.assertIs(shows_why(one, kinds, at, name, steps), True)
                    for place, (fact, by) in enumerate(steps):
                        for changed in (
                            (), ((fact, pick.randrange(rows)),), ((pick.choice(steps)[0], by),),
                            ((fact[:-1] + (pick.choice(kinds),), by),) if fact[0] == "holds" else (),
                        ):
                            other = steps[:place] + changed + steps[place + 1:]
                            expected = reckoned.is_why(one, kinds, at, name, other)
                            self.assertIs(shows_why(one, kinds, at, name, other), expected)
                            found[expected] += 1
        self.assertGreater(min(found.values()), 50)


class AnythingTest(unittest.TestCase):
    def test_by_itself(self):
        for case in CASES[:3]:
            for thing in plain_things() + nested_things() + strange_tuples() + [None, (), ((),), ((), ()), "a", ("a", "b")]:
                self.assertIs(shows_why(whole(case), there(case), case[3], case[4], thing), False)

    def test_in_the_place_of_each_part(self):
        junk = plain_things() + nested_things() + strange_tuples() + [(Unkind(),) * many for many in (1, 2, 3, 4, 5)]
        junk += [None, (), "a", "x", "of", "in", "body", ((), None), (None, ())]
        for case in CASES[:7]:
            for path in paths(case[5]):
                part = part_at(case[5], path)
                for thing in junk:
                    # What is written alike is alike: a truth and a number are not.
                    if isinstance(thing, (tuple, Unkind)) or repr(thing) != repr(part):
                        steps = replaced(case[5], path, thing)
                        told = shows_why(whole(case), there(case), case[3], case[4], steps)
                        self.assertIs(told, False, (case[0], path))

    def test_a_list_is_no_tuple(self):
        for case in CASES:
            for path in paths(case[5]):
                part = part_at(case[5], path)
                if isinstance(part, tuple):
                    for thing in (list(part), dict.fromkeys(range(len(part)), part), part + (None,), part + ("a",), part + part, part[:-1]):
                        if path != () or thing != part + part:
                            steps = replaced(case[5], path, thing)
                            self.assertIs(shows_why(whole(case), there(case), case[3], case[4], steps), False, (case[0], path))

    def test_a_truth_is_no_number(self):
        for case in CASES:
            for path in paths(case[5]):
                part = part_at(case[5], path)
                if part in (0, 1) and isinstance(part, int):
                    steps = replaced(case[5], path, bool(part))
                    self.assertEqual(steps, case[5])
                    self.assertIs(shows_why(whole(case), there(case), case[3], case[4], steps), False)

    def test_bytes_and_floats_are_neither(self):
        for case in CASES:
            for path in paths(case[5]):
                part = part_at(case[5], path)
                if isinstance(part, str):
                    things = (part.encode(), [part], (part,), {part}, list(part))
                elif isinstance(part, int):
                    things = (float(part), str(part), (part,), [part], complex(part))
                else:
                    things = ()
                for thing in things:
                    steps = replaced(case[5], path, thing)
                    self.assertIs(shows_why(whole(case), there(case), case[3], case[4], steps), False, (case[0], path))

    def test_same_again_and_nothing_changed(self):
        for case in CASES:
            for build in (lambda: case[5], lambda: [list(step) for step in case[5]], lambda: ({}, [case[5]], (set(), [1]))):
                thing, before = build(), copy.deepcopy(build())
                one, kinds = whole(case), there(case)
                told = [shows_why(one, kinds, case[3], case[4], thing) for turn in range(2)]
                self.assertIs(told[0], told[1])
                self.assertEqual((thing, one, kinds), (before, whole(case), there(case)))


if __name__ == "__main__":
    unittest.main()
