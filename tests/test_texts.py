"""A program's text: written, and read as it was."""

import copy
import unittest

import chance
from samples import RICH, deed, kind, program
from surecall.programs import is_program
from surecall.texts import read_program, show_program
from why_cases import CASES, call, whole

# Words that rows of a text begin with, or that stand within them.
NAMES = ("end", "or", "main", "gives", "kind", "under", "late", "deed", "either", "again", "call", "asked")


class Written(unittest.TestCase):
    def written(self, one, *rows):
        """The program has these rows as its text, and is read from it, part by part."""
        self.assertIs(is_program(one), True)
        text = "\n".join(rows)
        self.assertEqual(show_program(one), text)
        found = read_program(text)
        self.assertEqual(found, one)
        self.same_kinds(found, one)

    def same_kinds(self, one, other):
        """No part is of another sort, a list for a tuple."""
        self.assertEqual(repr(one), repr(other))


class RowsTest(Written):
    def in_main(self, row, *rows):
        kinds = (kind("a", None, (deed("do", ("p",)), deed("be"))), kind("n"))
        self.written(program(kinds, ("n",), (row,)), "kind a", "deed do p", "gives", "deed be", "gives", "late kind n", "main", *rows)

    def in_deed(self, row, *rows):
        self.written(program((kind("a", None, (deed("do", ("p",), (row,), "p"),)),)), "kind a", "deed do p", *rows, "gives p", "main")

    def test_each_sort_of_row(self):
        self.in_main(("make", "x", "a"), "make x a")
        self.in_main(("copy", "x", "y"), "copy x y")
        self.in_main(("put", "x", "f", "y"), "put x f y")
        self.in_main(("take", "x", "y", "f"), "take x y f")
        self.in_main(("say", "hm"), "say hm")
        self.in_main(("call", "x", "y", "a", "do", ("z",)), "call x y a do z")
        self.in_main(("call", "x", "y", "a", "be", ()), "call x y a be")
        self.in_main(("bring", "n"), "bring n")

    def test_own_in_deeds(self):
        self.in_deed(("copy", "x", "own"), "copy x own")
        self.in_deed(("put", "own", "own", "own"), "put own own own")
        self.in_deed(("take", "x", "own", "own"), "take x own own")
        self.in_deed(("call", "x", "own", "a", "do", ("own",)), "call x own a do own")

    def test_either(self):
        self.in_main(("either", (("say", "a"),), (("say", "b"), ("say", "c"))), "either", "say a", "or", "say b", "say c", "end")
        self.in_main(("either", (), (("say", "b"),)), "either", "or", "say b", "end")
        self.in_main(("either", (("say", "a"),), ()), "either", "say a", "or", "end")
        self.in_main(("either", (), ()), "either", "or", "end")
        self.in_deed(("either", (("say", "a"),), ()), "either", "say a", "or", "end")

    def test_again(self):
        self.in_main(("again", (("say", "a"), ("say", "b"))), "again", "say a", "say b", "end")
        self.in_main(("again", ()), "again", "end")
        self.in_deed(("again", ()), "again", "end")

    def test_within_one_another(self):
        inmost = ("either", (), (("say", "d"),))
        self.in_main(
            ("again", (("either", (("again", (inmost, ("say", "c"))),), (("say", "b"),)), ("say", "a"))),
            "again", "either", "again", "either", "or", "say d", "end", "say c", "end", "or", "say b", "end", "say a", "end",
        )
        self.in_main(
            ("either", (("either", (), (("again", ()),)),), (("either", (("again", ()), ("again", ())), ()),)),
            "either", "either", "or", "again", "end", "end", "or", "either", "again", "end", "again", "end", "or", "end", "end",
        )

    def test_several(self):
        self.written(program(rows=(("say", "a"), ("again", ()), ("say", "b"))), "kind a", "main", "say a", "again", "end", "say b")


class KindsTest(Written):
    def test_the_least_program(self):
        self.written(program(), "kind a", "main")

    def test_elders_and_late_ones(self):
        kinds = (kind("b"), kind("a", "b"), kind("z"), kind("d", "a"), kind("c", "d"), kind("e", "z"))
        self.written(program(kinds), "kind b", "kind a under b", "kind z", "kind d under a", "kind c under d", "kind e under z", "main")
        self.written(program(kinds, ("c", "e", "z")), "kind b", "kind a under b", "late kind z", "kind d under a",
                     "late kind c under d", "late kind e under z", "main")

    def test_late_rises_whatever_the_order_of_kinds(self):
        self.written(program((kind("c"), kind("a"), kind("b")), ("a", "b", "c")), "late kind c", "late kind a", "late kind b", "main")

    def test_deeds(self):
        say = ("say", "hm")
        kinds = (kind("a", None, (
            deed("be"), deed("do", ("p", "q", "r", "s"), (say,), "own"), deed("go", ("p",), (say, say), "x"), deed("is", (), (), "y"),
        )), kind("b", "a", (deed("be", (), (say,)),)))
        self.written(
            program(kinds), "kind a", "deed be", "gives", "deed do p q r s", "say hm", "gives own", "deed go p", "say hm", "say hm",
            "gives x", "deed is", "gives y", "kind b under a", "deed be", "say hm", "gives", "main",
        )

    def test_main_without_rows(self):
        self.written(program((kind("a", None, (deed("be"),)),)), "kind a", "deed be", "gives", "main")

    def test_words_of_the_text_as_names(self):
        for name in NAMES:
            rows = (("copy", name, name), ("put", name, name, name), ("call", name, name, name, name, (name,)), ("say", name),
                    ("either", (("make", name, name),), ()))
            one = program((kind(name, None, (deed(name, (name,), rows, name),)), kind("a", name)), (), rows)
            written = (f"copy {name} {name}", f"put {name} {name} {name}", f"call {name} {name} {name} {name} {name}", f"say {name}",
                       "either", f"make {name} {name}", "or", "end")
            self.written(one, f"kind {name}", f"deed {name} {name}", *written, f"gives {name}", f"kind a under {name}", "main", *written)
            late = program((kind(name), kind("b", name)), tuple(sorted(("b", name))), (("bring", name),))
            self.written(late, f"late kind {name}", f"late kind b under {name}", "main", f"bring {name}")

    def test_greatest_ones(self):
        says = (("say", "eightlet"),) * 20
        kinds = tuple(kind("k" + letter, None, ()) for letter in "bcdefghijkl")
        first = kind("ka", None, tuple(deed("d" + letter, ("p", "q", "r", "s"), says[:3], "s") for letter in "abcdef"))
        one = program((first,) + kinds, ("kg", "kh", "ki", "kj", "kk", "kl"), (("again", says), ("again", says)))
        self.assertIs(is_program(one), True)
        self.assertEqual(read_program(show_program(one)), one)


class WholeTest(Written):
    def test_read_as_it_was(self):
        for one in [RICH] + [whole(case) for case in CASES] + [make(number) for number in range(100) for make in (chance.program, chance.late_program)]:
            text = show_program(one)
            self.assertIsInstance(text, str)
            self.assertEqual(read_program(text), one)
            self.same_kinds(read_program(text), one)
            self.assertEqual(show_program(read_program(text)), text)

    def test_same_again_and_nothing_changed(self):
        before = copy.deepcopy(RICH)
        self.assertEqual(show_program(RICH), show_program(RICH))
        self.assertEqual(RICH, before)
        text = show_program(RICH)
        self.assertEqual(read_program(text), read_program(text))

    def test_a_call_of_a_small_program(self):
        one = program((kind("a", None, (deed("be"),)),), (), (("make", "x", "a"), call("x", "a")))
        self.written(one, "kind a", "deed be", "gives", "main", "make x a", "call none x a be")


if __name__ == "__main__":
    unittest.main()
