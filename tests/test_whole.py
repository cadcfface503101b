"""The whole promise, over several programs, runs of them and kinds there."""

import unittest

import chance
import reckoned
from samples import RICH
from surecall.flows import by_apart, by_flow
from surecall.makes import by_made
from surecall.plainrun import plain_run
from surecall.programs import calls, is_program
from surecall.trees import by_tree
from surecall.whylooks import shows_why
from surecall.whys import why
from why_cases import CASES, whole

# Each way behind one that tells no fewer kinds.
WAYS = (by_tree, by_made, by_flow, by_apart)
PROGRAMS = [RICH] + [whole(case) for case in CASES] + [chance.program(number) for number in range(100)]


def runs():
    """Each program with some choices and how many rows may be done."""
    for at, one in enumerate(PROGRAMS):
        for choices, most in [((), 300), ((1,) * 20, 300)] + chance.runs(at, 4):
            yield one, choices, most


def dones(program, log):
    """Of each call done its number, the kind that stood there, and which kinds were there by then."""
    there = set(reckoned.there_at_first(program))
    for entry in log:
        if entry[0] == "came":
            there.add(entry[1])
        elif entry[0] == "did":
            yield entry[1], entry[2], tuple(sorted(there))


def some_theres(program):
    """A few tuples of kinds there, the fewest and all among them."""
    found = list(reckoned.theres(program))
    return [reckoned.there_at_first(program)] + found[::1 + len(found) // 5] + found[-1:]


class PlainRunTest(unittest.TestCase):
    def test_as_reckoned_in_another_manner(self):
        ends = set()
        for one, choices, most in runs():
            self.assertIs(is_program(one), True)
            found = plain_run(one, choices, most)
            self.assertEqual(found, reckoned.Walk(one, choices, most).run())
            ends.add(found[2][0])
        self.assertEqual(ends, {"done", "absent", "nothing", "unfit", "deep", "long"})


def fewer(one, other):
    """Whether what is told for a call is among what the other tells for it, of all calls."""
    return all(number == same and set(kinds) <= set(others) for (number, kinds), (same, others) in zip(one, other))


class WaysTest(unittest.TestCase):
    def test_what_stands_at_a_call_done_is_told(self):
        many = 0
        for one, choices, most in runs():
            for number, name, there in set(dones(one, plain_run(one, choices, most)[0])):
                for way in WAYS:
                    self.assertIn(name, dict(way(one, there))[number], (one, choices, most, number, way))
                many += 1
        self.assertGreater(many, 300)

    def test_all_calls_rising_and_kinds_there_rising(self):
        for one in PROGRAMS:
            numbers = [number for number, body, row in calls(one)]
            for there in some_theres(one):
                for way in WAYS:
                    told = way(one, there)
                    self.assertIsInstance(told, tuple)
                    self.assertEqual([number for number, kinds in told], numbers)
                    for number, kinds in told:
                        self.assertIsInstance(kinds, tuple)
                        self.assertEqual(list(kinds), sorted(set(kinds)))
                        self.assertLessEqual(set(kinds), set(there))

    def test_each_finer_way_tells_no_more(self):
        finer = {way: 0 for way in WAYS[1:]}
        for one in PROGRAMS:
            for there in some_theres(one):
                for ahead, way in zip(WAYS, WAYS[1:]):
                    self.assertTrue(fewer(way(one, there), ahead(one, there)), (one, there, way))
                    finer[way] += way(one, there) != ahead(one, there)
        self.assertGreater(min(finer.values()), 5)

    def test_with_more_kinds_there_no_fewer_are_told(self):
        for one in PROGRAMS:
            theres = some_theres(one)
            for there in theres:
                for more in theres:
                    if set(there) < set(more):
                        for way in WAYS:
                            self.assertTrue(fewer(way(one, there), way(one, more)), (one, there, more, way))


class OwedTest(unittest.TestCase):
    def test_a_why_just_where_the_flow_way_tells_the_kind(self):
        for one in PROGRAMS:
            for there in some_theres(one):
                self.assertEqual(by_flow(one, there), reckoned.told_by_flow(one, there))
                for number, kinds in by_flow(one, there):
                    for name in reckoned.all_kinds(one):
                        steps = why(one, there, number, name)
                        self.assertIs(steps is not None, name in kinds, (one, there, number, name))

    def test_a_why_of_each_kind_that_stands_at_a_call_done(self):
        many = 0
        for one, choices, most in runs():
            for number, name, there in set(dones(one, plain_run(one, choices, most)[0])):
                self.assertIs(shows_why(one, there, number, name, why(one, there, number, name)), True)
                many += 1
        self.assertGreater(many, 300)


if __name__ == "__main__":
    unittest.main()
