"""How a plain run ends, and at which row."""

import unittest

from samples import deed, kind, program, says
from surecall.plainrun import plain_run

MOST = 10000
KINDS = (
    kind("top", None, (deed("do", (), (("say", "do"),)),)),
    kind("low", "top"),
    kind("lone", None, (deed("do"),)),
    kind("new"),
)
CALL = ("call", "z", "x", "top", "do", ())


def run(rows, choices=(), most=MOST, kinds=KINDS, late=("new",)):
    return plain_run(program(kinds, late, rows), choices, most)


def end(*others, **named):
    return run(*others, **named)[2]


def calls_within(many):
    """A deed that calls itself until a choice lets it be; each call but the last takes three rows."""
    rows = (("either", (("call", "x", "own", "a", "do", ()),), (("say", "inmost"),)),)
    return program((kind("a", None, (deed("do", (), rows),)),), (), (("make", "x", "a"), ("call", "x", "x", "a", "do", ()))), \
        (0,) * (many - 1) + (1,)


class DoneTest(unittest.TestCase):
    def test_behind_the_last_row_of_main(self):
        for rows in ((), says(1), says(20), (("make", "x", "top"), CALL), (("either", (), ()),), (("again", ()),)):
            self.assertEqual(end(rows), ("done", None))


class AbsentTest(unittest.TestCase):
    def test_a_late_kind_that_is_not_brought(self):
        self.assertEqual(run((("say", "a"), ("make", "x", "new"), ("say", "b"))), ((("say", 0, "a"),), 0, ("absent", 1)))

    def test_one_brought_behind(self):
        self.assertEqual(end((("make", "x", "new"), ("bring", "new"))), ("absent", 0))
        self.assertEqual(end((("bring", "new"), ("make", "x", "new"))), ("done", None))

    def test_only_the_one_brought_is_there(self):
        kinds = (kind("a"), kind("b"), kind("c", "a"))
        for name, told in (("a", ("done", None)), ("b", ("absent", 1)), ("c", ("done", None))):
            self.assertEqual(end((("bring", "c"), ("make", "x", name)), kinds=kinds, late=("a", "b", "c")), told)
        self.assertEqual(end((("bring", "a"), ("make", "x", "c")), kinds=kinds, late=("a", "b", "c")), ("absent", 1))

    def test_in_a_deed(self):
        kinds = (kind("a", None, (deed("do", (), (("say", "hm"), ("make", "x", "b"))),)), kind("b"))
        rows = (("make", "x", "a"), ("call", "x", "x", "a", "do", ()))
        self.assertEqual(end(rows, kinds=kinds, late=("b",)), ("absent", 3))


class NothingTest(unittest.TestCase):
    def test_put(self):
        self.assertEqual(end((("make", "y", "top"), ("put", "x", "f", "y"))), ("nothing", 1))
        self.assertEqual(end((("make", "x", "top"), ("put", "x", "f", "y"))), ("done", None))

    def test_take(self):
        self.assertEqual(end((("make", "x", "top"), ("take", "x", "y", "f"))), ("nothing", 1))
        self.assertEqual(end((("make", "y", "top"), ("take", "x", "y", "f"))), ("done", None))

    def test_call(self):
        self.assertEqual(end((("make", "z", "top"), CALL)), ("nothing", 1))

    def test_rows_behind_are_not_done(self):
        self.assertEqual(run((("say", "a"), CALL, ("say", "b"))), ((("say", 0, "a"),), 0, ("nothing", 1)))

    def test_numbers_within_rows_and_deeds(self):
        self.assertEqual(end((("either", (("say", "a"), CALL), ()),)), ("nothing", 2))
        self.assertEqual(end((("either", (("say", "a"),), (("again", (("say", "b"), CALL)),)),), (1, 1)), ("nothing", 4))


class UnfitTest(unittest.TestCase):
    def test_a_kind_that_is_not_below(self):
        self.assertEqual(end((("make", "x", "lone"), CALL)), ("unfit", 1))

    def test_an_elder_of_the_call_s_kind(self):
        self.assertEqual(end((("make", "x", "top"), ("call", "z", "x", "low", "do", ()))), ("unfit", 1))

    def test_below_it(self):
        for name in ("top", "low"):
            self.assertEqual(end((("make", "x", name), CALL)), ("done", None))

    def test_a_kind_beside_it(self):
        kinds = (kind("a", None, (deed("do"),)), kind("b", "a"), kind("c", "a"))
        rows = (("make", "x", "b"), ("call", "x", "x", "c", "do", ()))
        self.assertEqual(end(rows, kinds=kinds, late=()), ("unfit", 1))


class DeepTest(unittest.TestCase):
    def test_forty_are_done(self):
        for many in (1, 2, 39, 40):
            one, choices = calls_within(many)
            log, looks, told = plain_run(one, choices, MOST)
            self.assertEqual((len(log), looks, told), (many + 1, many, ("done", None)))

    def test_the_next_one_is_not(self):
        for many in (41, 42, 60):
            one, choices = calls_within(many)
            log, looks, told = plain_run(one, choices, MOST)
            self.assertEqual((log, looks, told), ((("did", 1, "a", "a"),) + (("did", 3, "a", "a"),) * 39, 40, ("deep", 3)))

    def test_without_an_end(self):
        one, choices = calls_within(2)
        self.assertEqual(plain_run(one, (), MOST)[2], ("deep", 3))

    def test_calls_one_behind_the_other_are_not_within(self):
        rows = (("make", "x", "top"),) + (("again", (("again", (CALL,)),)),)
        log, looks, told = run(rows, (9,) + (9,) * 9)
        self.assertEqual((len(log), looks, told), (162, 81, ("done", None)))

    def test_those_done_are_not_under_way(self):
        inner = (("again", (("call", "y", "own", "a", "be", ()),)), ("either", (("call", "x", "own", "a", "do", ()),), ()))
        kinds = (kind("a", None, (deed("do", (), inner), deed("be"))),)
        one = program(kinds, (), (("make", "x", "a"), ("call", "x", "x", "a", "do", ())))
        self.assertEqual(plain_run(one, (3, 0) * 38 + (3, 1), MOST)[2], ("done", None))
        self.assertEqual(plain_run(one, (3, 0) * 39 + (0, 1), MOST)[2], ("done", None))
        self.assertEqual(plain_run(one, (3, 0) * 39 + (3, 1), MOST)[2], ("deep", 3))
        self.assertEqual(plain_run(one, (3, 0) * 39 + (0, 0), MOST)[2], ("deep", 5))

    def test_with_rows_within_rows_and_more_within_than_python_bears(self):
        rows = (("call", "x", "own", "a", "do", ()),)
        for deep in range(4):
            rows = (("either", rows, ()),)
        one = program((kind("a", None, (deed("do", (), rows),)),), (), (("make", "x", "a"), ("call", "x", "x", "a", "do", ())))
        self.assertEqual(plain_run(one, (), MOST)[1:], (40, ("deep", 6)))


class LongTest(unittest.TestCase):
    def test_no_row_may_be_done(self):
        for most in (0, -1, -100):
            self.assertEqual(run(says(3), most=most), ((), 0, ("long", 0)))
            self.assertEqual(run((), most=most), ((), 0, ("done", None)))
            self.assertEqual(run((CALL,), most=most), ((), 0, ("long", 0)))

    def test_as_many_as_there_are_and_one_fewer(self):
        for many in (1, 2, 20):
            self.assertEqual(end(says(many), most=many), ("done", None))
            self.assertEqual(end(says(many), most=many + 1), ("done", None))
            self.assertEqual(run(says(many), most=many - 1), (tuple(("say", at, "hi") for at in range(many - 1)), 0, ("long", many - 1)))

    def test_each_row_counts(self):
        whole = (
            ("make", "x", "top"), ("copy", "y", "x"), ("put", "x", "f", "y"), ("take", "y", "x", "f"), ("say", "hm"),
            ("either", (("say", "rows"),), ()), ("bring", "new"), CALL, ("again", ()),
        )
        # Those done, in their order: main's, with the one row within either and the one of deed do.
        order = (0, 1, 2, 3, 4, 5, 6, 7, 8, 10, 9)
        for most, number in enumerate(order):
            self.assertEqual(end(whole, most=most), ("long", number))
        self.assertEqual(end(whole, most=len(order)), ("done", None))

    def test_a_bring_of_what_is_there_counts(self):
        self.assertEqual(end((("bring", "new"),) * 3, most=2), ("long", 2))
        self.assertEqual(end((("bring", "new"),) * 3, most=3), ("done", None))

    def test_either_counts_also_without_rows(self):
        self.assertEqual(end((("either", (), ()),) * 2, most=1), ("long", 1))

    def test_again_counts_once_its_rows_each_time(self):
        rows = (("again", (("say", "a"), ("say", "b"))), ("say", "c"))
        self.assertEqual(end(rows, (3,), most=8), ("done", None))
        self.assertEqual(end(rows, (3,), most=7), ("long", 3))
        self.assertEqual(end(rows, (3,), most=6), ("long", 2))
        self.assertEqual(end(rows, (3,), most=5), ("long", 1))
        self.assertEqual(end(rows, (0,), most=2), ("done", None))
        self.assertEqual(end(rows, (0,), most=1), ("long", 3))

    def test_the_end_of_a_body_is_no_row(self):
        rows = (("make", "x", "top"), CALL, CALL)
        self.assertEqual(end(rows, most=5), ("done", None))
        self.assertEqual(end(rows, most=4), ("long", 3))
        self.assertEqual(end(rows, most=3), ("long", 2))


class SeveralTest(unittest.TestCase):
    def test_long_ahead_of_all(self):
        self.assertEqual(end((("say", "a"), ("make", "x", "new")), most=1), ("long", 1))
        self.assertEqual(end((("say", "a"), ("put", "x", "f", "x")), most=1), ("long", 1))
        self.assertEqual(end((("say", "a"), ("take", "x", "x", "f")), most=1), ("long", 1))
        self.assertEqual(end((("say", "a"), CALL), most=1), ("long", 1))
        self.assertEqual(end((("make", "x", "lone"), CALL), most=1), ("long", 1))
        one, choices = calls_within(41)
        self.assertEqual(plain_run(one, choices, 2 + 40 + 39)[2], ("long", 3))
        self.assertEqual(plain_run(one, choices, 2 + 40 + 40)[2], ("deep", 3))

    def inmost(self, row):
        """A run that comes to the row while forty calls are under way."""
        rows = (("make", "b", "other"), ("either", (("call", "x", "own", "a", "do", ()),), (row,)))
        kinds = (kind("a", None, (deed("do", (), rows),)), kind("other", None, (deed("do"),)))
        one = program(kinds, (), (("make", "x", "a"), ("call", "x", "x", "a", "do", ())))
        log, looks, told = plain_run(one, (0,) * 39 + (1,), MOST)
        self.assertEqual(looks, 40)
        return told

    def test_nothing_and_unfit_ahead_of_deep(self):
        self.assertEqual(self.inmost(("call", "x", "unset", "a", "do", ())), ("nothing", 5))
        self.assertEqual(self.inmost(("call", "x", "b", "a", "do", ())), ("unfit", 5))
        self.assertEqual(self.inmost(("call", "x", "b", "other", "do", ())), ("deep", 5))
        self.assertEqual(self.inmost(("say", "hm")), ("done", None))


if __name__ == "__main__":
    unittest.main()
