"""The plain run: how each row is done, and what is told of it."""

import copy
import unittest

from samples import RICH, deed, kind, program, says
from surecall.plainrun import plain_run

MOST = 10000

# Deed who says nothing: that it was done tells what kind the thing was of.
KINDS = (
    kind("top", None, (deed("who"), deed("give", ("p", "q"), (), "q"))),
    kind("mid", "top", ()),
    kind("low", "mid", (deed("who"),)),
    kind("far", None, (deed("who"),)),
)


def run(rows, choices=(), most=MOST, kinds=KINDS, late=()):
    return plain_run(program(kinds, late, rows), choices, most)


def who(variable, top="top"):
    return ("call", "none", variable, top, "who", ())


def done(number, name, answer):
    return ("did", number, name, answer)


class RowTest(unittest.TestCase):
    def told(self, rows, log, end=("done", None), choices=(), **others):
        found = run(rows, choices, **others)
        self.assertEqual((found[0], found[2]), (tuple(log), end))

    def test_no_rows(self):
        self.assertEqual(run(()), ((), 0, ("done", None)))

    def test_make(self):
        self.told((("make", "x", "mid"), who("x")), [done(1, "mid", "top")])
        self.told((("make", "x", "mid"), ("make", "x", "low"), who("x")), [done(2, "low", "low")])

    def test_a_made_thing_is_a_new_one(self):
        rows = (
            ("make", "x", "top"), ("make", "z", "low"), ("put", "x", "f", "z"),
            ("make", "x", "top"), ("take", "y", "x", "f"), who("y"),
        )
        self.told(rows, [], ("nothing", 5))

    def test_copy(self):
        rows = (("make", "y", "mid"), ("copy", "x", "y"), ("make", "y", "low"), who("x"), who("y"))
        self.told(rows, [done(3, "mid", "top"), done(4, "low", "low")])

    def test_a_copy_is_the_same_thing(self):
        rows = (
            ("make", "x", "top"), ("copy", "y", "x"), ("make", "z", "low"), ("put", "y", "f", "z"),
            ("take", "w", "x", "f"), who("w"),
        )
        self.told(rows, [done(5, "low", "low")])

    def test_a_copy_of_nothing(self):
        self.told((("make", "x", "mid"), ("copy", "x", "y"), who("x")), [], ("nothing", 2))
        self.told((("copy", "x", "x"),), [])

    def test_put_and_take(self):
        rows = (
            ("make", "x", "top"), ("make", "y", "mid"), ("make", "z", "low"),
            ("put", "x", "f", "y"), ("put", "x", "g", "z"), ("put", "z", "f", "x"),
            ("take", "v", "x", "f"), ("take", "w", "x", "g"), ("take", "u", "z", "f"), who("v"), who("w"), who("u"),
        )
        self.told(rows, [done(9, "mid", "top"), done(10, "low", "low"), done(11, "top", "top")])

    def test_put_anew(self):
        rows = (
            ("make", "x", "top"), ("make", "y", "mid"), ("put", "x", "f", "y"), ("make", "y", "low"),
            ("take", "z", "x", "f"), ("put", "x", "f", "y"), ("take", "w", "x", "f"), who("z"), who("w"),
        )
        self.told(rows, [done(7, "mid", "top"), done(8, "low", "low")])

    def test_put_of_nothing(self):
        rows = (
            ("make", "x", "top"), ("put", "x", "f", "x"), ("put", "x", "f", "unset"), ("take", "x", "x", "f"), who("x"),
        )
        self.told(rows, [], ("nothing", 4))

    def test_a_thing_in_its_own_field(self):
        rows = (("make", "x", "low"), ("put", "x", "f", "x"), ("take", "y", "x", "f"), ("take", "z", "y", "f"), who("z"))
        self.told(rows, [done(4, "low", "low")])

    def test_a_field_never_put(self):
        self.told((("make", "x", "top"), ("make", "y", "top"), ("take", "y", "x", "f"), who("y")), [], ("nothing", 3))
        self.told((("make", "x", "top"), ("take", "y", "x", "f")), [])

    def test_fields_are_those_of_each_thing(self):
        rows = (
            ("make", "x", "top"), ("make", "y", "top"), ("put", "x", "f", "x"), ("take", "z", "y", "f"), who("z"),
        )
        self.told(rows, [], ("nothing", 4))

    def test_a_field_is_no_variable(self):
        rows = (("make", "x", "top"), ("put", "x", "y", "x"), who("y"))
        self.told(rows, [], ("nothing", 2))

    def test_say(self):
        self.told((("say", "hm"), ("say", "own"), ("say", "hm")), [("say", 0, "hm"), ("say", 1, "own"), ("say", 2, "hm")])


class ChoiceTest(unittest.TestCase):
    def said(self, rows, choices, **others):
        log, looks, end = run(rows, choices, **others)
        self.assertEqual(end, ("done", None))
        return [(number, word) for say, number, word in log]

    EITHER = ("either", (("say", "rows"),), (("say", "others"),))

    def test_either(self):
        for choice, told in ((0, (1, "rows")), (1, (2, "others")), (9, (2, "others")), (-1, (2, "others")), (100, (2, "others"))):
            self.assertEqual(self.said((self.EITHER,), (choice,)), [told])

    def test_either_with_the_choices_used_up(self):
        self.assertEqual(self.said((self.EITHER,), ()), [(1, "rows")])
        self.assertEqual(self.said((self.EITHER,) * 3, (1,)), [(2, "others"), (4, "rows"), (7, "rows")])

    def test_each_takes_the_next_one(self):
        self.assertEqual(self.said((self.EITHER,) * 4, (0, 1, 0, 2)), [(1, "rows"), (5, "others"), (7, "rows"), (11, "others")])
        self.assertEqual(self.said((self.EITHER,), (0, 1, 1, 1)), [(1, "rows")])

    def test_either_of_no_rows(self):
        rows = (("either", (), (("say", "others"),)), ("either", (("say", "rows"),), ()), ("say", "end"))
        self.assertEqual(self.said(rows, (0, 1)), [(4, "end")])

    def test_again(self):
        rows = (("again", (("say", "one"), ("say", "two"))), ("say", "end"))
        for choice, many in ((0, 0), (-1, 0), (-9, 0), (1, 1), (2, 2), (8, 8), (9, 9), (10, 9), (11, 9), (10 ** 20, 9)):
            self.assertEqual(self.said(rows, (choice,)), [(1, "one"), (2, "two")] * many + [(3, "end")], choice)

    def test_again_with_the_choices_used_up(self):
        self.assertEqual(self.said((("again", (("say", "one"),)), ("say", "end")), ()), [(2, "end")])

    def test_again_reads_once_ahead(self):
        rows = (("again", (self.EITHER,)), self.EITHER)
        self.assertEqual(self.said(rows, (2, 1, 0, 3)), [(3, "others"), (2, "rows"), (6, "others")])
        self.assertEqual(self.said(rows, (0, 1)), [(6, "others")])

    def test_within_one_another(self):
        rows = (("again", (("again", (("say", "in"),)), ("say", "out"))), ("say", "end"))
        self.assertEqual(
            self.said(rows, (3, 2, 0, 1)),
            [(2, "in"), (2, "in"), (3, "out"), (3, "out"), (2, "in"), (3, "out"), (4, "end")],
        )

    def test_again_of_no_rows(self):
        self.assertEqual(self.said((("again", ()), self.EITHER), (9, 1)), [(3, "others")])

    def test_variables_are_those_of_the_body_around(self):
        rows = (("make", "x", "top"), ("again", (("copy", "y", "x"), ("make", "x", "low"))), who("y"), who("x"))
        self.assertEqual(run(rows, (1,))[0], (done(4, "top", "top"), done(5, "low", "low")))
        self.assertEqual(run(rows, (2,))[0], (done(4, "low", "low"), done(5, "low", "low")))
        rows = (("either", (("make", "x", "mid"),), (("make", "x", "low"),)), who("x"))
        self.assertEqual(run(rows, (0,))[0], (done(3, "mid", "top"),))
        self.assertEqual(run(rows, (1,))[0], (done(3, "low", "low"),))

    def test_one_body_reads_behind_the_other(self):
        kinds = (kind("a", None, (deed("do", (), (self.EITHER,)),)),)
        rows = (("make", "x", "a"), ("call", "y", "x", "a", "do", ()), self.EITHER)
        self.assertEqual(run(rows, (1, 0), kinds=kinds)[0], (("did", 1, "a", "a"), ("say", 7, "others"), ("say", 3, "rows")))


class BringTest(unittest.TestCase):
    LINE = (kind("a", None, (deed("who"),)), kind("b", "a"), kind("c", "b"), kind("d", "c"), kind("e"))
    LATE = ("b", "c", "d", "e")

    def told(self, *rows):
        return run(rows, kinds=self.LINE, late=self.LATE)[0]

    def test_elders_first_the_farthest_first(self):
        self.assertEqual(self.told(("bring", "d")), (("came", "b"), ("came", "c"), ("came", "d")))
        self.assertEqual(self.told(("bring", "b")), (("came", "b"),))

    def test_those_alone_that_are_not_there(self):
        self.assertEqual(self.told(("bring", "b"), ("bring", "d")), (("came", "b"), ("came", "c"), ("came", "d")))
        self.assertEqual(self.told(("bring", "c"), ("bring", "b"), ("bring", "e"), ("bring", "c")),
                         (("came", "b"), ("came", "c"), ("came", "e")))

    def test_one_that_is_there(self):
        self.assertEqual(self.told(("bring", "e"), ("bring", "e")), (("came", "e"),))

    def test_what_came_is_there(self):
        log = (("came", "b"), ("came", "c"), ("did", 2, "c", "a"), ("did", 4, "b", "a"))
        rows = (("bring", "c"), ("make", "x", "c"), who("x", "b"), ("make", "x", "b"), who("x", "a"))
        self.assertEqual(run(rows, kinds=self.LINE, late=self.LATE), (log, 5, ("done", None)))

    def test_what_came_in_a_deed_is_there_behind_it(self):
        kinds = (kind("a", None, (deed("get", (), (("bring", "b"),)),)), kind("b"))
        rows = (("make", "x", "a"), ("call", "y", "x", "a", "get", ()), ("make", "x", "b"))
        self.assertEqual(run(rows, kinds=kinds, late=("b",)), ((("did", 1, "a", "a"), ("came", "b")), 1, ("done", None)))


class CallTest(unittest.TestCase):
    def told(self, kinds, rows, log, end=("done", None)):
        found = run(rows, kinds=kinds)
        self.assertEqual((found[0], found[2]), (tuple(log), end))

    def one_deed(self, rows, gives=None, params=()):
        """Kind top with deed who and this deed do; mid stands under it, low under mid with a who of its own."""
        return (
            kind("top", None, (deed("who"), deed("do", params, rows, gives))), kind("mid", "top"),
            kind("low", "mid", (deed("who"),)),
        )

    def test_by_the_kind_itself_and_by_elders(self):
        rows = (("make", "x", "top"), who("x"), ("make", "x", "mid"), who("x"), ("make", "x", "low"), who("x"))
        self.told(KINDS, rows, [done(1, "top", "top"), done(3, "mid", "top"), done(5, "low", "low")])

    def test_the_thing_s_kind_tells_not_the_call_s(self):
        rows = (("make", "x", "low"), who("x", "low"), who("x", "mid"), who("x", "top"))
        self.told(KINDS, rows, [done(1, "low", "low"), done(2, "low", "low"), done(3, "low", "low")])

    def test_rows_of_the_body_are_done_behind_its_did(self):
        kinds = self.one_deed(says(2))
        rows = (("make", "x", "mid"), ("call", "y", "x", "top", "do", ()), ("say", "end"))
        self.told(kinds, rows, [done(1, "mid", "top"), ("say", 3, "hi"), ("say", 4, "hi"), ("say", 2, "end")])

    def test_own_is_the_thing(self):
        kinds = self.one_deed((who("own"), ("put", "own", "f", "own")))
        rows = (("make", "x", "low"), ("call", "y", "x", "top", "do", ()), ("take", "z", "x", "f"), who("z"))
        self.told(kinds, rows, [done(1, "low", "top"), done(4, "low", "low"), done(3, "low", "low")])

    def test_params_hold_what_args_do(self):
        kinds = self.one_deed((who("p"), who("q"), who("r")), None, ("p", "q", "r"))
        rows = (
            ("make", "x", "top"), ("make", "y", "mid"), ("make", "z", "low"),
            ("call", "w", "x", "top", "do", ("y", "z", "y")),
        )
        self.told(kinds, rows, [
            done(3, "top", "top"), done(4, "mid", "top"), done(5, "low", "low"), done(6, "mid", "top"),
        ])

    def test_an_arg_that_holds_nothing(self):
        kinds = self.one_deed((who("p"),), None, ("p",))
        rows = (("make", "x", "top"), ("make", "p", "top"), ("call", "w", "x", "top", "do", ("unset",)))
        self.told(kinds, rows, [done(2, "top", "top")], ("nothing", 3))

    def test_own_as_an_arg(self):
        kinds = self.one_deed((("call", "r", "own", "top", "take", ("own",)),))
        kinds = (kind("top", None, kinds[0][2] + (deed("take", ("p",), (who("p"),)),)),) + kinds[1:]
        rows = (("make", "x", "low"), ("call", "y", "x", "top", "do", ()))
        self.told(kinds, rows, [done(1, "low", "top"), done(2, "low", "top"), done(3, "low", "low")])

    def test_params_are_those_of_the_answer(self):
        kinds = (
            kind("top", None, (deed("who"), deed("do", ("p", "q"), (who("p"),)))),
            kind("low", "top", (deed("do", ("q", "p"), (who("p"),)),)),
        )
        rows = (
            ("make", "a", "top"), ("make", "b", "low"),
            ("call", "x", "a", "top", "do", ("a", "b")), ("call", "x", "b", "top", "do", ("a", "b")),
        )
        self.told(kinds, rows, [
            done(2, "top", "top"), done(4, "top", "top"), done(3, "low", "low"), done(5, "low", "top"),
        ])

    def test_gives_of_a_variable(self):
        rows = (("make", "x", "top"), ("call", "y", "x", "top", "do", ()), who("y"), who("x"))
        kinds = self.one_deed((("make", "z", "low"), ("make", "y", "mid")), "z")
        self.told(kinds, rows, [done(1, "top", "top"), done(2, "low", "low"), done(3, "top", "top")])

    def test_gives_of_a_param(self):
        rows = (("make", "x", "top"), ("make", "z", "low"), ("call", "x", "x", "top", "give", ("x", "z")), who("x"))
        self.told(KINDS, rows, [done(2, "top", "top"), done(3, "low", "low")])

    def test_gives_what_the_variable_holds_behind_the_rows(self):
        kinds = self.one_deed((("make", "p", "mid"),), "p", ("p",))
        rows = (("make", "x", "top"), ("call", "y", "x", "top", "do", ("x",)), who("y"), who("x"))
        self.told(kinds, rows, [done(1, "top", "top"), done(2, "mid", "top"), done(3, "top", "top")])

    def test_gives_of_own(self):
        rows = (("make", "x", "mid"), ("call", "y", "x", "top", "do", ()), who("y"))
        self.told(self.one_deed((), "own"), rows, [done(1, "mid", "top"), done(2, "mid", "top")])

    def test_gives_of_none_is_nothing(self):
        rows = (("make", "x", "mid"), ("make", "y", "mid"), ("call", "y", "x", "top", "do", ()), who("y"))
        self.told(self.one_deed((("make", "y", "top"),), None), rows, [done(2, "mid", "top")], ("nothing", 3))

    def test_gives_of_a_variable_that_holds_nothing(self):
        rows = (("make", "x", "mid"), ("make", "y", "mid"), ("call", "x", "x", "top", "do", ()), who("x"))
        self.told(self.one_deed((), "y"), rows, [done(2, "mid", "top")], ("nothing", 3))

    def test_x_holds_what_it_did_until_the_call_is_done(self):
        kinds = self.one_deed((("take", "r", "p", "f"), who("r")), "r", ("p",))
        rows = (
            ("make", "x", "low"), ("put", "x", "f", "x"),
            ("call", "x", "x", "top", "do", ("x",)), who("x"),
        )
        self.told(kinds, rows, [done(2, "low", "top"), done(5, "low", "low"), done(3, "low", "low")])

    def test_variables_of_its_own(self):
        inner = self.one_deed((who("x"),))
        self.told(inner, (("make", "x", "top"), ("call", "y", "x", "top", "do", ())), [done(1, "top", "top")], ("nothing", 2))
        inner = self.one_deed((("make", "x", "low"), ("make", "z", "low")))
        rows = (("make", "x", "top"), ("call", "y", "x", "top", "do", ()), who("x"), who("z"))
        self.told(inner, rows, [done(1, "top", "top"), done(2, "top", "top")], ("nothing", 3))

    def test_each_call_has_variables_of_its_own(self):
        kinds = self.one_deed((
            ("either", (("copy", "z", "own"),), (("make", "z", "low"), ("call", "y", "own", "top", "do", ()))),
            who("z"),
        ))
        rows = (("make", "x", "mid"), ("call", "y", "x", "top", "do", ()), ("call", "y", "x", "top", "do", ()))
        found = run(rows, (1, 0, 0), kinds=kinds)
        self.assertEqual(found[0], (
            done(1, "mid", "top"), done(6, "mid", "top"), done(7, "mid", "top"), done(7, "low", "low"),
            done(2, "mid", "top"), done(7, "mid", "top"),
        ))

    def test_what_is_put_in_a_body_stays(self):
        kinds = self.one_deed((("make", "z", "low"), ("put", "p", "f", "z")), None, ("p",))
        rows = (("make", "x", "top"), ("make", "y", "mid"), ("call", "w", "x", "top", "do", ("y",)),
                ("take", "z", "y", "f"), who("z"))
        self.told(kinds, rows, [done(2, "top", "top"), done(4, "low", "low")])


class LogTest(unittest.TestCase):
    PATH = (
        kind("a", None, (deed("do", (), (("say", "ado"),)), deed("be", (), (("call", "x", "own", "a", "do", ()),)))),
        kind("b", "a"), kind("c", "b", (deed("do", (), (("bring", "e"), ("say", "cdo"))),)), kind("d", "c"), kind("e"),
    )
    ROWS = (
        ("say", "go"), ("make", "x", "d"),
        ("call", "y", "x", "a", "be", ()),
        ("call", "y", "x", "c", "do", ()),
        ("make", "x", "b"), ("call", "y", "x", "a", "do", ()), ("say", "end"),
    )

    def test_entries_in_their_order(self):
        self.assertEqual(plain_run(program(self.PATH, ("e",), self.ROWS), (), 99), ((
            ("say", 0, "go"),
            ("did", 2, "d", "a"), ("did", 8, "d", "c"), ("came", "e"), ("say", 10, "cdo"),
            ("did", 3, "d", "c"), ("say", 10, "cdo"),
            ("did", 5, "b", "a"), ("say", 7, "ado"),
            ("say", 6, "end"),
        ), 4 + 2 + 2 + 2, ("done", None)))

    def test_looks_are_asked_of_each_call_done(self):
        for name, many in (("a", 1), ("b", 2), ("c", 1), ("d", 2)):
            rows = (("make", "x", name), ("call", "y", "x", "a", "do", ()))
            self.assertEqual(plain_run(program(self.PATH, ("e",), rows), (), 99)[1], many)
            rows = (("make", "x", name), ("again", (("call", "y", "x", "a", "do", ()),)))
            self.assertEqual(plain_run(program(self.PATH, ("e",), rows), (3,), 99)[1], 3 * many)

    def test_no_looks_of_a_call_that_ended_the_run(self):
        unfit = (("make", "x", "d"), ("call", "y", "x", "a", "do", ()), ("make", "x", "b"), ("call", "y", "x", "c", "do", ()))
        self.assertEqual(plain_run(program(self.PATH, ("e",), unfit), (), 99)[1:], (2, ("unfit", 3)))
        nothing = (("make", "x", "d"), ("call", "y", "x", "a", "do", ()), ("call", "y", "y", "c", "do", ()))
        self.assertEqual(plain_run(program(self.PATH, ("e",), nothing), (), 99)[1:], (2, ("nothing", 2)))
        self.assertEqual(plain_run(program(self.PATH, ("e",), nothing), (), 1), ((), 0, ("long", 1)))

    def test_the_log_of_a_run_that_ended_early_is_told(self):
        log = (("say", 0, "go"), ("did", 2, "d", "a"), ("did", 8, "d", "c"), ("came", "e"))
        self.assertEqual(plain_run(program(self.PATH, ("e",), self.ROWS), (), 5), (log, 6, ("long", 10)))

    def test_what_it_is_made_of(self):
        found = plain_run(program(self.PATH, ("e",), self.ROWS), (), 99)
        self.assertIsInstance(found, tuple)
        self.assertIsInstance(found[0], tuple)
        self.assertTrue(all(isinstance(entry, tuple) for entry in found[0]))
        self.assertIsInstance(found[1], int)
        self.assertIsInstance(found[2], tuple)

    def test_same_again_and_nothing_changed(self):
        for one in (RICH, program(self.PATH, ("e",), self.ROWS)):
            for choices in ((), (1,), (0, 3, 0, 2), (1, 1, 1)):
                before = copy.deepcopy((one, choices))
                self.assertEqual(plain_run(one, choices, 50), plain_run(one, choices, 50))
                self.assertEqual((one, choices), before)

    def test_nothing_is_kept_from_a_run(self):
        bring = program((kind("a"), kind("b")), ("b",), (("either", (("bring", "b"),), ()), ("make", "x", "b")))
        self.assertEqual(plain_run(bring, (0,), 9), ((("came", "b"),), 0, ("done", None)))
        self.assertEqual(plain_run(bring, (1,), 9), ((), 0, ("absent", 2)))


if __name__ == "__main__":
    unittest.main()
