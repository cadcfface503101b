"""is_program: False of each thing that the document rules out."""

import unittest

from samples import RICH, SAY, deed, in_deed, in_main, kind, program
from surecall.programs import is_program


class NotProgramsTest(unittest.TestCase):
    def no(self, thing):
        self.assertIs(is_program(thing), False, thing)

    def neither_place(self, row):
        """Neither in main nor in a deed, by itself or within others."""
        for build in (in_main, in_deed):
            self.no(build(row))
            self.no(build(SAY, ("again", (SAY, row))))
            self.no(build(("either", (row,), ())))
            self.no(build(("either", (), (row, SAY))))

    def test_another_number_of_parts(self):
        kinds, late, rows = RICH
        self.no((kinds, late))
        self.no((kinds, late, rows, ()))
        self.no(())
        self.no(program((("a", None),)))
        self.no(program((("a", None, (), ()),)))
        self.no(program((kind("a", None, (("do", (), ()),)),)))
        self.no(program((kind("a", None, (("do", (), (), None, None),)),)))

    def test_a_name_told_twice(self):
        self.no(program((kind("a"), kind("a"))))
        self.no(program((kind("a"), kind("b"), kind("a", "b"))))

    def test_a_deed_told_twice(self):
        self.no(program((kind("a", None, (deed("do"), deed("do"))),)))
        self.no(program((kind("a", None, (deed("do"), deed("be"), deed("do", (), (SAY,)))),)))

    def test_an_elder_that_is_none(self):
        self.no(program((kind("a", "nobody"),)))
        self.no(program((kind("a"), kind("b", "do"))))

    def test_an_elder_that_stands_behind(self):
        self.no(program((kind("a", "b"), kind("b"))))
        self.no(program((kind("a", "a"),)))
        self.no(program((kind("a", "b"), kind("b", "a"))))

    def test_late_ones_that_do_not_rise(self):
        kinds = (kind("a"), kind("b"), kind("c"))
        self.no(program(kinds, ("b", "a")))
        self.no(program(kinds, ("a", "c", "b")))

    def test_late_ones_told_twice(self):
        kinds = (kind("a"), kind("b"))
        self.no(program(kinds, ("a", "a")))
        self.no(program(kinds, ("a", "b", "b")))

    def test_late_ones_that_are_no_kinds(self):
        self.no(program((kind("a"),), ("b",)))
        self.no(program((kind("a"), kind("c")), ("a", "b")))

    def test_a_kind_that_is_not_late_though_its_elder_is(self):
        kinds = (kind("a"), kind("b", "a"), kind("c", "b"))
        self.no(program(kinds, ("a",)))
        self.no(program(kinds, ("b",)))
        self.no(program(kinds, ("a", "b")))
        self.no(program(kinds, ("a", "c")))

    def test_params_alike(self):
        self.no(program((kind("a", None, (deed("do", ("p", "p")),)),)))
        self.no(program((kind("a", None, (deed("do", ("p", "q", "r", "p")),)),)))

    def test_own_as_a_param(self):
        self.no(program((kind("a", None, (deed("do", ("own",)),)),)))
        self.no(program((kind("a", None, (deed("do", ("p", "own")),)),)))

    def test_own_as_x(self):
        self.neither_place(("make", "own", "a"))
        self.neither_place(("copy", "own", "y"))
        self.neither_place(("copy", "own", "own"))
        self.neither_place(("take", "own", "y", "f"))
        self.neither_place(("call", "own", "y", "a", "do", ("z",)))

    def test_own_as_a_variable_in_main(self):
        for row in (
            ("make", "own", "a"),
            ("copy", "own", "y"),
            ("copy", "x", "own"),
            ("put", "own", "f", "y"),
            ("put", "x", "f", "own"),
            ("take", "own", "y", "f"),
            ("take", "x", "own", "f"),
            ("call", "own", "y", "a", "do", ("z",)),
            ("call", "x", "own", "a", "do", ("z",)),
            ("call", "x", "y", "a", "do", ("own",)),
        ):
            self.no(in_main(row))
            self.no(in_main(("again", (("either", (), (row,)),))))

    def test_a_make_of_a_kind_that_is_none(self):
        self.neither_place(("make", "x", "nobody"))
        self.neither_place(("make", "x", "do"))

    def test_a_call_whose_kind_is_none(self):
        self.neither_place(("call", "x", "y", "nobody", "do", ("z",)))

    def test_a_call_without_an_answer(self):
        self.neither_place(("call", "x", "y", "b", "do", ("z",)))
        self.neither_place(("call", "x", "y", "a", "be", ("z",)))
        self.neither_place(("call", "x", "y", "a", "be", ()))

    def test_a_call_of_a_deed_that_only_those_below_have(self):
        kinds = (kind("a"), kind("b", "a", (deed("do"),)))
        self.no(program(kinds, (), (("call", "x", "y", "a", "do", ()),)))
        self.assertTrue(is_program(program(kinds, (), (("call", "x", "y", "b", "do", ()),))))

    def test_a_call_with_another_number_of_args(self):
        self.neither_place(("call", "x", "y", "a", "do", ()))
        self.neither_place(("call", "x", "y", "a", "do", ("z", "z")))
        self.neither_place(("call", "x", "y", "a", "do", ("z",) * 9))

    def test_a_call_with_another_number_of_args_than_an_elders_params(self):
        kinds = (kind("a", None, (deed("do", ("p", "q")),)), kind("b", "a"), kind("c", "b"))
        for many in (0, 1, 3, 4):
            self.no(program(kinds, (), (("call", "x", "y", "c", "do", ("z",) * many),)))

    def test_bring_of_a_kind_that_is_not_late(self):
        self.neither_place(("bring", "a"))
        self.neither_place(("bring", "nobody"))
        self.no(program((kind("a"),), (), (("bring", "a"),)))

    def test_a_deed_with_another_number_of_params_than_an_elders(self):
        top = kind("a", None, (deed("be"), deed("do", ("p",))))
        for params in ((), ("p", "q"), ("p", "q", "r", "s")):
            other = (deed("do", params),)
            self.no(program((top, kind("b", "a", other))))
            self.no(program((top, kind("b", "a"), kind("c", "b", other))))
            self.no(program((top, kind("b", "a", (deed("do", ("x",)),)), kind("c", "b"), kind("d", "c", other))))

    def test_rows_of_another_length(self):
        for row in (
            ("make", "x", "a"), ("copy", "x", "y"), ("put", "x", "f", "y"), ("take", "x", "y", "f"), ("say", "hi"),
            ("call", "x", "y", "a", "do", ("z",)), ("either", (), ()), ("again", ()), ("bring", "b"),
        ):
            self.assertTrue(is_program(in_main(row)))
            self.neither_place(row[:-1])
            self.neither_place(row[:1])
            for more in ("x", "a", (), None):
                self.neither_place(row + (more,))
        self.neither_place(())

    def test_rows_with_another_first_word(self):
        for word in ("made", "Make", "makes", "", "or", "end", "main", "x", None, 0, True, (), b"say", ("say",), ["say"]):
            self.neither_place((word, "x"))
            self.neither_place((word, "x", "a"))
            self.neither_place((word, "x", "y", "f"))

    def test_a_row_straight_in_the_place_of_rows(self):
        self.no(program(rows=SAY))
        self.neither_place(("again", SAY))
        self.neither_place(("either", SAY, ()))

    def test_gives_that_is_no_variable(self):
        for gives in ((), 0, False, ("x",), "X", ""):
            self.no(program((kind("a", None, (deed("do", (), (), gives),)),)))

    def test_rows_in_each_body_are_looked_at(self):
        bad = ("make", "x", "nobody")
        kinds = (
            kind("a", None, (deed("do"), deed("be", (), (bad,)))),
            kind("b", "a", (deed("do"),)),
        )
        self.no(program(kinds))
        self.no(program((kind("a"), kind("b", "a", (deed("do", (), (SAY, bad)),)))))


if __name__ == "__main__":
    unittest.main()
