"""is_program: what is one, up to each bound, and one beyond each bound."""

import unittest

from samples import RICH, SAY, deed, in_deed, in_main, kind, program, says
from surecall.programs import is_program


def named(many):
    """So many unlike words, rising."""
    return tuple("abcdefghijklmnopqrstuvwxyz"[:many])


class ProgramCase(unittest.TestCase):
    def yes(self, thing):
        self.assertIs(is_program(thing), True, thing)

    def no(self, thing):
        self.assertIs(is_program(thing), False, thing)


class IsProgramTest(ProgramCase):
    def test_small_ones(self):
        self.yes(((("a", None, ()),), (), ()))
        self.yes(in_main())
        self.yes(in_deed())

    def test_all_rows_together(self):
        self.yes(RICH)

    def test_each_row_in_main_and_in_a_deed(self):
        for row in (
            ("make", "x", "a"),
            ("make", "x", "b"),
            ("copy", "x", "y"),
            ("copy", "x", "x"),
            ("put", "x", "f", "y"),
            ("take", "x", "y", "f"),
            ("say", "hello"),
            ("call", "x", "y", "a", "do", ("z",)),
            ("either", (), ()),
            ("either", (SAY,), (SAY, SAY)),
            ("again", ()),
            ("again", (SAY,)),
            ("bring", "b"),
        ):
            self.yes(in_main(row))
            self.yes(in_deed(row))

    def test_rows_within_one_another(self):
        call = ("call", "x", "y", "a", "do", ("z",))
        rows = (("either", (("again", (call, ("bring", "b"))),), (("either", (SAY,), (("make", "x", "a"),)),)), call)
        self.yes(in_main(*rows))
        self.yes(in_deed(*rows))

    def test_own_where_it_may_stand(self):
        for row in (
            ("copy", "x", "own"),
            ("put", "own", "f", "y"),
            ("put", "x", "f", "own"),
            ("put", "own", "own", "own"),
            ("take", "x", "own", "f"),
            ("call", "x", "own", "a", "do", ("z",)),
            ("call", "x", "y", "a", "do", ("own",)),
        ):
            self.yes(in_deed(row))
            self.yes(in_deed(("again", (row,))))
            self.yes(in_deed(("either", (), (row,))))

    def test_own_where_it_is_no_variable(self):
        self.yes(in_main(("say", "own")))
        self.yes(in_main(("put", "x", "own", "y")))
        self.yes(in_main(("take", "x", "y", "own")))
        own = kind("own", None, (deed("own"),))
        self.yes(program((own,), (), (("make", "x", "own"), ("call", "x", "y", "own", "own", ()))))
        self.yes(program((own,), ("own",), (("bring", "own"),)))

    def test_gives(self):
        for gives in (None, "own", "p", "nowhere"):
            self.yes(program((kind("a", None, (deed("do", ("p",), (), gives),)),)))

    def test_args_may_be_alike(self):
        one = kind("a", None, (deed("do", ("p", "q")),))
        self.yes(program((one,), (), (("call", "x", "x", "a", "do", ("x", "x")),)))

    def test_words_that_name_several_things(self):
        one = kind("a", None, (deed("a", ("a",), (("put", "a", "a", "a"),), "a"),))
        self.yes(program((one,), (), (("call", "a", "a", "a", "a", ("a",)), ("say", "say"))))

    def test_trees_and_paths(self):
        self.yes(program((kind("b"), kind("a", "b"), kind("d", "a"), kind("c", "b"), kind("e"))))

    def test_late_kinds(self):
        kinds = (kind("b"), kind("a", "b"), kind("d", "a"), kind("c"))
        self.yes(program(kinds, ("d",)))
        self.yes(program(kinds, ("a", "d")))
        self.yes(program(kinds, ("a", "b", "d")))
        self.yes(program(kinds, ("a", "b", "c", "d")))
        self.yes(program(kinds, ("c",), (("bring", "c"),)))

    def test_a_call_answered_by_an_elder(self):
        kinds = (kind("a", None, (deed("do", ("p",)),)), kind("b", "a"), kind("c", "b"))
        self.yes(program(kinds, (), (("call", "x", "y", "c", "do", ("z",)),)))

    def test_a_deed_put_otherwise(self):
        kinds = (
            kind("a", None, (deed("do", ("p", "q")),)),
            kind("b", "a", (deed("do", ("r", "s"), (SAY,), "own"),)),
            kind("c", "b", (deed("do", ("q", "p")),)),
            kind("d", None, (deed("do", ("p",)),)),
        )
        self.yes(program(kinds))

    def test_kinds_beside_may_have_other_numbers_of_params(self):
        kinds = (kind("a"), kind("b", "a", (deed("do", ("p",)),)), kind("c", "a", (deed("do", ()),)))
        self.yes(program(kinds))


class BoundsTest(ProgramCase):
    def test_kinds(self):
        for many in (1, 2, 11, 12):
            self.yes(program(tuple(kind(name) for name in named(many))))
        self.no(program(()))
        self.no(program(tuple(kind(name) for name in named(13))))

    def test_deeds(self):
        for many in (0, 1, 5, 6):
            self.yes(program((kind("a", None, tuple(deed(name) for name in named(many))),)))
        self.no(program((kind("a", None, tuple(deed(name) for name in named(7))),)))

    def test_params(self):
        for many in range(5):
            one = kind("a", None, (deed("do", named(many)),))
            self.yes(program((one,), (), (("call", "x", "y", "a", "do", ("z",) * many),)))
        self.no(program((kind("a", None, (deed("do", named(5)),)),)))

    def test_late_ones(self):
        kinds = tuple(kind(name) for name in named(12))
        for many in (0, 1, 5, 6):
            self.yes(program(kinds, named(many)))
        self.no(program(kinds, named(7)))

    def test_rows_in_a_row_of_rows(self):
        for build in (in_main, in_deed):
            for many in (0, 1, 19, 20):
                self.yes(build(*says(many)))
                self.yes(build(("again", says(many))))
                self.yes(build(("either", says(many), ())))
                self.yes(build(("either", (), says(many))))
                self.yes(build(("again", (("either", says(many), says(many)),))))
            self.no(build(*says(21)))
            self.no(build(("again", says(21))))
            self.no(build(("either", says(21), ())))
            self.no(build(("either", (), says(21))))
            self.no(build(("again", (("either", (), says(21)),))))

    def test_within_one_another(self):
        wraps = (
            lambda row: ("again", (row,)),
            lambda row: ("either", (row,), ()),
            lambda row: ("either", (), (SAY, row)),
        )
        for build in (in_main, in_deed):
            for first in range(len(wraps)):
                row = SAY
                for nested in range(1, 8):
                    row = wraps[(first + nested) % len(wraps)](row)
                    check = self.yes if nested <= 4 else self.no
                    check(build(row))

    def test_the_fifth_holds_none_and_is_still_one_too_many(self):
        for last in (("again", ()), ("either", (), ())):
            three = ("again", (("again", (("either", (last,), ()),)),))
            self.yes(in_main(three))
            self.no(in_main(("again", (three,))))

    def test_beside_one_another_they_count_apart(self):
        four = ("again", (("again", (("again", (("again", (SAY,)),)),)),))
        self.yes(in_main(four, four, ("either", (), ()), four))

    def test_rows_in_all(self):
        def spread(main, *deeds):
            told = tuple(deed(name, (), says(many)) for name, many in zip(named(6), deeds))
            return program((kind("a", None, told),), (), says(main))

        self.yes(spread(20, 20, 20, 20))
        self.yes(spread(20, 20, 20, 19, 1))
        self.yes(spread(0, 20, 20, 20, 20, 0))
        self.no(spread(20, 20, 20, 20, 1))
        self.no(spread(1, 20, 20, 20, 20))
        self.no(spread(20, 20, 20, 20, 20, 20, 20))

    def test_rows_in_all_with_those_within_others(self):
        # Each either here is 40 rows: itself, 20 and 19.
        half = ("either", says(20), says(19))
        self.yes(in_main(half, half))
        self.no(in_main(half, half, SAY))
        self.no(in_main(half, ("either", says(20), says(20))))
        deep = ("again", (("again", (half,)),))
        self.yes(in_main(half, ("again", (("again", (("either", says(18), says(19)),)),))))
        self.no(in_main(half, deep))

    def test_rows_over_several_kinds(self):
        kinds = tuple(kind(name, None, (deed("do", (), says(8)),)) for name in named(10))
        self.yes(program(kinds))
        self.no(program(kinds, (), (SAY,)))

    def test_letters_of_words(self):
        for word in ("a", "z", "az", "abcdefgh", "zzzzzzzz"):
            self.yes(program((kind(word),)))
            self.yes(in_main(("say", word)))
            self.yes(in_main(("put", word, word, word)))
            self.yes(in_deed(("call", word, word, "a", "do", (word,))))
        for word in ("", "abcdefghi", "A", "aB", "a1", "a b", " a", "a\n", "a_", "`", "{", "\u00e9", "\u0430", "\ud800"):
            self.no(program((kind(word),)))
            self.no(program((kind("a"), kind("b", word))))
            self.no(program((kind("a", None, (deed(word),)),)))
            self.no(program((kind("a", None, (deed("do", (word,)),)),)))
            self.no(program((kind("a", None, (deed("do", (), (), word),)),)))
            self.no(program((kind("a"),), (word,)))
            self.no(in_main(("say", word)))
            self.no(in_main(("make", word, "a")))
            self.no(in_main(("put", "x", word, "y")))
            self.no(in_main(("take", "x", "y", word)))
            self.no(in_deed(("copy", "x", word)))
            self.no(in_deed(("call", "x", "y", "a", "do", (word,))))


if __name__ == "__main__":
    unittest.main()
