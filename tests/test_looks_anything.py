"""shows and shows_call of anything: by itself, and in the place of each part of a paper."""

import copy
import unittest

from samples import deed, kind, program
from surecall.calllooks import shows_call
from surecall.looks import shows
from surecall.papers import paper
from things import nest, nested_things, part_at, paths, plain_things, replaced, strange_tuples
from why_cases import call

WAYS = ("tree", "made", "flow", "apart")
KINDS = (kind("a", None, (deed("be"), deed("do", ("p",), (("put", "own", "f", "p"), call("p", "a"))))), kind("b", "a"))
ONE = program(KINDS, (), (("make", "x", "a"), call("x", "a", "do", ("x",), "y"), ("make", "y", "b")))
THERE = ("a", "b")
JUNK = [None] + plain_things() + nested_things() + strange_tuples()


def is_as_in_main(thing):
    """Whether it is an empty text, or of such alone, as main's body is."""
    if isinstance(thing, tuple):
        return all(isinstance(part, str) and part == "" for part in thing)
    return isinstance(thing, str) and thing == ""


class AnythingTest(unittest.TestCase):
    def refused(self, way, thing):
        self.assertIs(shows(ONE, way, THERE, thing), False, way)
        self.assertIs(shows_call(ONE, way, 1, ("straight", "a"), (), thing), False, way)
        self.assertIs(shows_call(ONE, way, 1, ("plain",), (), thing), False, way)

    def test_the_papers_themselves(self):
        for way in WAYS:
            self.assertIs(shows(ONE, way, THERE, paper(ONE, way, THERE)), True)
            self.assertIs(shows_call(ONE, way, 1, ("straight", "a"), (), paper(ONE, way, THERE)), True)

    def test_by_itself(self):
        for way in WAYS:
            for thing in JUNK + ["a", "own", ("",), (("", ""),), ((("", ""),),), ("", ""), ("", "", "")]:
                self.refused(way, thing)

    def test_in_the_place_of_each_part(self):
        for way in WAYS[1:]:
            whole = paper(ONE, way, THERE)
            for path in paths(whole):
                for thing in JUNK:
                    if not is_as_in_main(thing):
                        self.refused(way, replaced(whole, path, thing))

    def test_nothing_in_the_place_of_each_part(self):
        for way in WAYS[1:]:
            whole = paper(ONE, way, THERE)
            for path in paths(whole):
                self.refused(way, replaced(whole, path, ()))

    def test_a_list_is_no_tuple(self):
        for way in WAYS[1:]:
            whole = paper(ONE, way, THERE)
            for path in paths(whole):
                part = part_at(whole, path)
                if isinstance(part, tuple):
                    self.refused(way, replaced(whole, path, list(part)))
        self.refused("tree", [])

    def test_other_things_of_the_same_words(self):
        for way in WAYS[1:]:
            whole = paper(ONE, way, THERE)
            for path in paths(whole):
                part = part_at(whole, path)
                if isinstance(part, str):
                    for thing in (part.encode(), [part], (part,), {part}, {part: part}, list(part)):
                        self.refused(way, replaced(whole, path, thing))
                elif all(isinstance(word, str) for word in part):
                    self.refused(way, replaced(whole, path, "".join(part)))

    def test_one_more_in_each_place(self):
        for way in WAYS[1:]:
            whole = paper(ONE, way, THERE)
            for path in paths(whole):
                part = part_at(whole, path)
                if isinstance(part, tuple):
                    for thing in JUNK:
                        self.refused(way, replaced(whole, path, part + (thing,)))
                        self.refused(way, replaced(whole, path, (thing,) + part))

    def test_sixty_deep(self):
        for way in WAYS:
            for inmost in ("a", "", (), None, paper(ONE, way, THERE)):
                for wrap in (lambda thing: (thing,), lambda thing: (thing, thing), lambda thing: [thing], lambda thing: {1: thing}):
                    self.refused(way, nest(wrap, inmost, 56))

    def test_same_again_and_nothing_changed(self):
        for build in (lambda: [[["", ""]], ["a"]], lambda: ([("", "")], {"a": [1]}), lambda: {"a": {}}):
            thing, before = build(), copy.deepcopy(build())
            for way in WAYS:
                self.refused(way, thing)
                self.refused(way, thing)
            self.assertEqual(thing, before)


if __name__ == "__main__":
    unittest.main()
