import copy
import unittest

from samples import RICH, deed, kind, program
from surecall.kinds import answer, asked, elders, is_below

# A tree, a path within it, and a kind by itself.
#   top(do, be) - mid(go) - low(do) - end
#               - side(be)
#   lone(fly)
TREE = program((
    kind("top", None, (deed("do"), deed("be"))),
    kind("lone", None, (deed("fly"),)),
    kind("mid", "top", (deed("go"),)),
    kind("side", "top", (deed("be"),)),
    kind("low", "mid", (deed("do"),)),
    kind("end", "low"),
), ("end",))

LINES = {
    "top": ("top",),
    "lone": ("lone",),
    "mid": ("top", "mid"),
    "side": ("top", "side"),
    "low": ("top", "mid", "low"),
    "end": ("top", "mid", "low", "end"),
}

# Of each kind and deed: the answer, and how many kinds are asked.
ANSWERS = {
    ("top", "do"): ("top", 1), ("top", "be"): ("top", 1), ("top", "go"): (None, 1), ("top", "fly"): (None, 1),
    ("lone", "do"): (None, 1), ("lone", "be"): (None, 1), ("lone", "go"): (None, 1), ("lone", "fly"): ("lone", 1),
    ("mid", "do"): ("top", 2), ("mid", "be"): ("top", 2), ("mid", "go"): ("mid", 1), ("mid", "fly"): (None, 2),
    ("side", "do"): ("top", 2), ("side", "be"): ("side", 1), ("side", "go"): (None, 2), ("side", "fly"): (None, 2),
    ("low", "do"): ("low", 1), ("low", "be"): ("top", 3), ("low", "go"): ("mid", 2), ("low", "fly"): (None, 3),
    ("end", "do"): ("low", 2), ("end", "be"): ("top", 4), ("end", "go"): ("mid", 3), ("end", "fly"): (None, 4),
}


def path(many):
    """Kinds each under the one ahead, the first of them with deed do."""
    names = "abcdefghijklmnop"[:many]
    kinds = [kind("a", None, (deed("do"),))]
    kinds += [kind(name, elder) for elder, name in zip(names, names[1:])]
    return program(tuple(kinds)), names


class EldersTest(unittest.TestCase):
    def test_the_farthest_first_and_itself_last(self):
        for name, line in LINES.items():
            self.assertEqual(elders(TREE, name), line)

    def test_of_a_path(self):
        long, names = path(12)
        self.assertEqual(elders(long, names[-1]), tuple(names))
        self.assertEqual(elders(long, "a"), ("a",))

    def test_it_is_a_tuple(self):
        self.assertIsInstance(elders(TREE, "low"), tuple)


class IsBelowTest(unittest.TestCase):
    def test_each_two_kinds(self):
        for one in LINES:
            for other in LINES:
                self.assertIs(is_below(TREE, one, other), other in LINES[one], (one, other))

    def test_a_kind_is_below_itself(self):
        for name in LINES:
            self.assertIs(is_below(TREE, name, name), True)

    def test_elders_are_not_below(self):
        self.assertIs(is_below(TREE, "top", "low"), False)
        self.assertIs(is_below(TREE, "side", "mid"), False)


class AnswerTest(unittest.TestCase):
    def test_each_kind_and_deed(self):
        for (name, word), (found, many) in ANSWERS.items():
            self.assertEqual(answer(TREE, name, word), found, (name, word))
            self.assertEqual(asked(TREE, name, word), many, (name, word))

    def test_a_word_that_is_no_deed(self):
        for name, line in LINES.items():
            for word in ("nobody", "top", "own"):
                self.assertIsNone(answer(TREE, name, word))
                self.assertEqual(asked(TREE, name, word), len(line))

    def test_up_a_path(self):
        long, names = path(12)
        for at, name in enumerate(names):
            self.assertEqual(answer(long, name, "do"), "a")
            self.assertEqual(asked(long, name, "do"), at + 1)
            self.assertEqual(asked(long, name, "go"), at + 1)

    def test_somewhat_beyond_the_bounds(self):
        long, names = path(16)
        self.assertEqual(elders(long, "p"), tuple(names))
        self.assertEqual(answer(long, "p", "do"), "a")
        self.assertEqual(asked(long, "p", "do"), 16)

    def test_asked_is_a_number_and_no_truth(self):
        self.assertNotIsInstance(asked(TREE, "top", "do"), bool)
        self.assertIsInstance(asked(TREE, "top", "do"), int)


class SameAgainTest(unittest.TestCase):
    def test_asked_again_and_nothing_changed(self):
        for one in (TREE, RICH):
            before = copy.deepcopy(one)
            names = [name for name, elder, deeds in one[0]]
            tell = lambda: [
                (elders(one, name), is_below(one, name, other), answer(one, name, "do"), asked(one, name, "rest"))
                for name in names for other in names
            ]
            self.assertEqual(tell(), tell())
            self.assertEqual(one, before)


if __name__ == "__main__":
    unittest.main()
