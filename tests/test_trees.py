"""By the tree: which kinds are told for a call."""

import copy
import unittest

import reckoned
from samples import RICH, deed, kind, program
from surecall.trees import by_tree
from why_cases import call

#   top(be) - mid - low(be)
#           - side
#   lone(be, do)
KINDS = (
    kind("top", None, (deed("be"),)), kind("mid", "top"), kind("low", "mid", (deed("be", (), (call("own", "lone"),)),)),
    kind("side", "top"), kind("lone", None, (deed("be"), deed("do", (), (call("own", "top"),)))),
)
ALL = ("lone", "low", "mid", "side", "top")


class TreeTest(unittest.TestCase):
    def told(self, rows, there=ALL, late=()):
        return by_tree(program(KINDS, late, rows), there)

    def test_no_calls(self):
        self.assertEqual(by_tree(program(), ("a",)), ())

    def test_those_below_the_call_s_kind(self):
        rows = (call("x", "top"), call("x", "mid"), call("x", "low"), call("x", "side"), call("x", "lone"))
        self.assertEqual(self.told(rows), (
            (0, ("low", "mid", "side", "top")), (1, ("low", "mid")), (2, ("low",)), (3, ("side",)), (4, ("lone",)),
            (5, ("lone",)), (6, ("low", "mid", "side", "top")),
        ))

    def test_what_is_made_does_not_matter(self):
        self.assertEqual(self.told((("make", "x", "lone"), call("x", "mid")))[0], (1, ("low", "mid")))

    def test_calls_within_either_and_again(self):
        rows = (
            call("x", "side"),
            ("either", (("say", "hm"), call("x", "mid")), (("again", (call("x", "low"),)), call("x", "lone"))),
            call("x", "top"),
        )
        self.assertEqual(self.told(rows)[:5], (
            (0, ("side",)), (3, ("low", "mid")), (5, ("low",)), (6, ("lone",)), (7, ("low", "mid", "side", "top")),
        ))

    def test_those_alone_that_are_there(self):
        rows = (call("x", "top"), call("x", "mid"), call("x", "low"))
        for there, told in (
            ((), ((), (), ())),
            (("top",), (("top",), (), ())),
            (("mid", "top"), (("mid", "top"), ("mid",), ())),
            (("low", "mid", "top"), (("low", "mid", "top"), ("low", "mid"), ("low",))),
            (("side", "top"), (("side", "top"), (), ())),
            (("lone",), ((), (), ())),
        ):
            self.assertEqual(tuple(kinds for number, kinds in self.told(rows, there)[:3]), told)

    def test_bodies_that_are_not_there(self):
        rows = (call("x", "top"),)
        # Row 1 is one of low's deeds, row 2 one of lone's.
        self.assertEqual(self.told(rows, ("lone", "top")), ((0, ("top",)), (1, ()), (2, ("top",))))
        self.assertEqual(self.told(rows, ("low", "mid", "top")), ((0, ("low", "mid", "top")), (1, ()), (2, ())))
        self.assertEqual(self.told(rows, ("lone", "low", "mid", "top")),
                         ((0, ("low", "mid", "top")), (1, ("lone",)), (2, ("low", "mid", "top"))))

    def test_whether_a_kind_is_late_does_not_matter(self):
        rows = (call("x", "top"), ("bring", "mid"), call("x", "mid"))
        for late in ((), ("low", "mid"), ("low", "mid", "side", "top")):
            self.assertEqual(self.told(rows, ("low", "mid", "top"), late)[:2], ((0, ("low", "mid", "top")), (2, ("low", "mid"))))
            self.assertEqual(self.told(rows, ("side", "top"), late)[:2], ((0, ("side", "top")), (2, ())))

    def test_somewhat_beyond_the_bounds(self):
        names = tuple("abcdefghijklmnop")
        kinds = (kind("a", None, (deed("be"),)),) + tuple(kind(name, "a") for name in names[1:])
        self.assertEqual(by_tree(program(kinds, (), (call("x", "a"),)), names), ((0, names),))

    def test_same_again_and_nothing_changed(self):
        for there in reckoned.theres(RICH):
            before = copy.deepcopy((RICH, there))
            told = by_tree(RICH, there)
            self.assertEqual(told, reckoned.told_by_tree(RICH, there))
            self.assertEqual(told, by_tree(RICH, there))
            self.assertEqual((RICH, there), before)


if __name__ == "__main__":
    unittest.main()
