"""The whole promise, over several programs, runs of them and kinds there."""

import unittest

import chance
import reckoned
from samples import RICH
from surecall.plainrun import plain_run
from surecall.programs import is_program
from surecall.whylooks import shows_why
from surecall.whys import why
from why_cases import CASES, whole

PROGRAMS = [RICH] + [whole(case) for case in CASES] + [chance.program(number) for number in range(100)]


def runs():
    """Each program with some choices and how many rows may be done."""
    for at, one in enumerate(PROGRAMS):
        for choices, most in [((), 300), ((1,) * 20, 300)] + chance.runs(at, 4):
            yield one, choices, most


def dones(program, log):
    """Of each call done its number, the kind that stood there, and which kinds were there by then."""
    there = set(reckoned.there_at_first(program))
    for entry in log:
        if entry[0] == "came":
            there.add(entry[1])
        elif entry[0] == "did":
            yield entry[1], entry[2], tuple(sorted(there))


def some_theres(program):
    """A few tuples of kinds there, the fewest and all among them."""
    found = list(reckoned.theres(program))
    return [reckoned.there_at_first(program)] + found[::1 + len(found) // 5] + found[-1:]


class PlainRunTest(unittest.TestCase):
    def test_as_reckoned_in_another_manner(self):
        ends = set()
        for one, choices, most in runs():
            self.assertIs(is_program(one), True)
            found = plain_run(one, choices, most)
            self.assertEqual(found, reckoned.Walk(one, choices, most).run())
            ends.add(found[2][0])
        self.assertEqual(ends, {"done", "absent", "nothing", "unfit", "deep", "long"})


class OwedTest(unittest.TestCase):
    def test_a_why_just_where_the_flow_way_tells_the_kind(self):
        for one in PROGRAMS:
            for there in some_theres(one):
                for number, kinds in reckoned.told_by_flow(one, there):
                    for name in reckoned.all_kinds(one):
                        steps = why(one, there, number, name)
                        self.assertIs(steps is not None, name in kinds, (one, there, number, name))

    def test_a_why_of_each_kind_that_stands_at_a_call_done(self):
        many = 0
        for one, choices, most in runs():
            owed = {(number, name, there) for number, name, there in dones(one, plain_run(one, choices, most)[0])}
            for number, name, there in owed:
                self.assertIs(shows_why(one, there, number, name, why(one, there, number, name)), True)
                many += 1
        self.assertGreater(many, 300)


if __name__ == "__main__":
    unittest.main()
