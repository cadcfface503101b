"""The four ways by their names."""

import copy
import unittest

import chance
import reckoned
from samples import RICH, deed, kind, program
from surecall.flows import apart_paper, by_apart, by_flow, flow_paper
from surecall.makes import by_made, made_paper
from surecall.papers import paper, told
from surecall.trees import by_tree
from why_cases import call

# One call of which each way tells fewer kinds than the one ahead.
KINDS = (
    kind("a", None, (deed("be"), deed("same", ("p",), (), "p"))), kind("b", "a"), kind("c", "a"), kind("d", "a"), kind("e", "a"),
)
ROWS = (
    ("make", "w", "b"), ("make", "x", "c"), ("make", "y", "d"), call("x", "a", "same", ("x",), "z"),
    call("w", "a", "same", ("w",)), call("z", "a"),
)
UNLIKE = program(KINDS, ("e",), ROWS)
THERE = ("a", "b", "c", "d")


class PaperTest(unittest.TestCase):
    def test_of_each_way(self):
        main, same = ("", ""), ("a", "same")
        self.assertEqual(paper(UNLIKE, "tree", THERE), ())
        self.assertEqual(paper(UNLIKE, "made", THERE), ((main, ("a", "be"), same), ("b", "c", "d")))
        self.assertEqual(paper(UNLIKE, "flow", THERE), (
            (main, ("a", "be"), same),
            (
                (("of", "", "", "none"), ("b", "c")), (("of", "", "", "w"), ("b",)), (("of", "", "", "x"), ("c",)),
                (("of", "", "", "y"), ("d",)), (("of", "", "", "z"), ("b", "c")),
                (("of", "a", "be", "own"), ("b", "c")), (("of", "a", "same", "own"), ("b", "c")),
                (("of", "a", "same", "p"), ("b", "c")),
            ),
        ))
        self.assertEqual(paper(UNLIKE, "apart", THERE), (
            (("", "", ""), ("a", "be", "c"), ("a", "same", "b"), ("a", "same", "c")),
            (
                (("of", "", "", "", "none"), ("b",)), (("of", "", "", "", "w"), ("b",)), (("of", "", "", "", "x"), ("c",)),
                (("of", "", "", "", "y"), ("d",)), (("of", "", "", "", "z"), ("c",)), (("of", "a", "be", "c", "own"), ("c",)),
                (("of", "a", "same", "b", "own"), ("b",)), (("of", "a", "same", "b", "p"), ("b",)),
                (("of", "a", "same", "c", "own"), ("c",)), (("of", "a", "same", "c", "p"), ("c",)),
            ),
        ))

    def test_as_each_way_s_own(self):
        for one in [RICH, UNLIKE] + [chance.late_program(number) for number in range(20)]:
            for there in reckoned.theres(one):
                self.assertEqual(paper(one, "tree", there), ())
                self.assertEqual(paper(one, "made", there), made_paper(one, there))
                self.assertEqual(paper(one, "flow", there), flow_paper(one, there))
                self.assertEqual(paper(one, "apart", there), apart_paper(one, there))


class ToldTest(unittest.TestCase):
    def test_of_each_way(self):
        self.assertEqual(told(UNLIKE, "tree", THERE)[-1], (5, ("a", "b", "c", "d")))
        self.assertEqual(told(UNLIKE, "made", THERE)[-1], (5, ("b", "c", "d")))
        self.assertEqual(told(UNLIKE, "flow", THERE)[-1], (5, ("b", "c")))
        self.assertEqual(told(UNLIKE, "apart", THERE)[-1], (5, ("c",)))

    def test_as_each_way_s_own(self):
        for one in [RICH, UNLIKE] + [chance.late_program(number) for number in range(20)]:
            for there in reckoned.theres(one):
                self.assertEqual(told(one, "tree", there), by_tree(one, there))
                self.assertEqual(told(one, "made", there), by_made(one, there))
                self.assertEqual(told(one, "flow", there), by_flow(one, there))
                self.assertEqual(told(one, "apart", there), by_apart(one, there))

    def test_same_again_and_nothing_changed(self):
        for way in ("tree", "made", "flow", "apart"):
            for there in reckoned.theres(RICH):
                before = copy.deepcopy((RICH, there))
                self.assertEqual(told(RICH, way, there), told(RICH, way, there))
                self.assertEqual(paper(RICH, way, there), paper(RICH, way, there))
                self.assertEqual((RICH, there), before)


if __name__ == "__main__":
    unittest.main()
