"""Answers to rows that ask something of a program's text."""

import copy
import unittest

import chance
import reckoned
import remade
from samples import RICH, deed, kind, program
from surecall.answers import answers
from surecall.errors import NoProgram, NoRow, SureError
from surecall.texts import show_program
from things import Unkind, nested_things, plain_things, strange_tuples
from why_cases import call

WAYS = ("tree", "made", "flow", "apart")
BE = (deed("be", (), (("say", "be"),)),)

# Asked for be: of a, f and n one, of b two, of c three. Calls: 4 with c, 5 with a and f, 6 with all three, 7 with none.
KINDS = (kind("a", None, BE), kind("b", "a"), kind("c", "b"), kind("f", "a", BE), kind("n", "c", BE), kind("o", "n"))
ROWS = (
    ("make", "x", "c"), ("make", "y", "a"), ("make", "y", "f"), ("copy", "z", "y"),
    call("x", "a"), call("y", "a"), call("z", "a"), call("w", "a"), ("copy", "z", "x"), ("make", "x", "n"),
)
ONE = program(KINDS, ("n", "o"), ROWS)


def asked(one, *rows):
    return answers("\n".join((show_program(one), "asked") + rows))


class Asked(unittest.TestCase):
    def told(self, row, answer, one=ONE):
        self.assertEqual(asked(one, row), (answer,))


class ToldTest(Asked):
    def test_by_each_way(self):
        self.told("told tree", "4:a,b,c,f; 5:a,b,c,f; 6:a,b,c,f; 7:a,b,c,f")
        self.told("told made", "4:a,c,f; 5:a,c,f; 6:a,c,f; 7:a,c,f")
        self.told("told flow", "4:c; 5:a,f; 6:a,c,f; 7:-")
        self.told("told apart", "4:c; 5:a,f; 6:a,c,f; 7:-")

    def test_apart_tells_fewer(self):
        kinds = (kind("a", None, BE + (deed("same", ("p",), (), "p"),)), kind("b", "a"))
        rows = (
            ("make", "x", "a"), ("make", "y", "b"), call("x", "a", "same", ("x",), "z"), call("y", "a", "same", ("y",)), call("z", "a"),
        )
        self.told("told flow", "2:a; 3:b; 4:a,b", program(kinds, (), rows))
        self.told("told apart", "2:a; 3:b; 4:a", program(kinds, (), rows))

    def test_without_calls(self):
        for way in WAYS:
            self.told("told " + way, "-", program())

    def test_one_call(self):
        one = program((kind("a", None, BE),), (), (call("x", "a"),))
        self.told("told tree", "0:a", one)
        self.told("told flow", "0:-", one)


class MadeTest(Asked):
    def test_straight_asks_and_plain_and_until(self):
        self.told("made flow", "4:straight a until n,o; 5:asks a,f; 6:plain; 7:plain")
        self.told("made apart", "4:straight a until n,o; 5:asks a,f; 6:plain; 7:plain")
        self.told("made made", "4:plain; 5:plain; 6:plain; 7:plain")
        self.told("made tree", "4:plain; 5:plain; 6:plain; 7:plain")

    def test_asks_until(self):
        kinds = (kind("a", None, BE), kind("b", "a"), kind("c", "b", BE), kind("n", "a"))
        one = program(kinds, ("n",), (("make", "x", "b"), ("make", "x", "c"), call("x", "a"), ("make", "x", "n")))
        self.told("made flow", "2:asks c,b until n", one)
        self.told("made made", "2:asks c,b until n", one)
        self.told("made tree", "2:plain", one)
        self.told("made tree", "0:asks c,b", program(kinds, ("n",), (call("x", "b"),)))

    def test_straight_until_one(self):
        kinds = (kind("a", None, BE), kind("n", "a", BE))
        for way in WAYS:
            self.told("made " + way, "1:straight a until n", program(kinds, ("n",), (("make", "x", "a"), call("x", "a"), ("make", "x", "n"))))

    def test_without_calls(self):
        for way in WAYS:
            self.told("made " + way, "-", program())


class RunTest(Asked):
    def test_each_end(self):
        self.told("run 100", "nothing 7; looks 5; said be be be")
        kinds = (kind("a", None, BE + (deed("do", (), (call("own", "a", "do"),)),)), kind("b", "a"), kind("n"))
        for rows, answer in (
            ((("make", "x", "b"), call("x", "a")), "done; looks 2; said be"),
            ((("say", "hm"), ("make", "x", "n")), "absent 1; looks 0; said hm"),
            ((("make", "x", "a"), call("x", "b")), "unfit 1; looks 0; said -"),
            ((("make", "x", "b"), call("x", "a", "do")), "deep 3; looks 80; said -"),
            ((("say", "hm"),) * 20, "done; looks 0; said " + " ".join(["hm"] * 20)),
            ((), "done; looks 0; said -"),
        ):
            self.told("run 100", answer, program(kinds, ("n",), rows))
        self.told("run 5", "long 10; looks 3; said -")
        self.told("run 6", "long 5; looks 3; said be")
        self.told("run 0", "long 0; looks 0; said -")
        self.told("run 1", "long 1; looks 0; said -")

    def test_choices(self):
        one = program(rows=(("either", (("say", "a"),), (("say", "b"),)), ("again", (("say", "c"),))))
        self.told("run 100", "done; looks 0; said a", one)
        self.told("run 100 0", "done; looks 0; said a", one)
        self.told("run 100 1 2", "done; looks 0; said b c c", one)
        self.told("run 100 9 9 9 9", "done; looks 0; said b c c c c c c c c c", one)
        self.told("run 4 0 9", "long 4; looks 0; said a c", one)

    def test_figures_of_most(self):
        one = program(rows=(("say", "a"),))
        for most in ("1", "10", "100000", "999999", "123456"):
            self.told("run " + most, "done; looks 0; said a", one)


class SavesTest(Asked):
    def test_by_each_way(self):
        self.told("saves flow 100", "5 2")
        self.told("saves apart 100", "5 2")
        self.told("saves made 100", "5 5")
        self.told("saves tree 100", "5 5")

    def test_by_choices_and_most(self):
        self.told("saves flow 0", "0 0")
        self.told("saves flow 5", "3 0")
        kinds = (kind("a", None, BE), kind("b", "a"), kind("n", "a", BE))
        one = program(kinds, ("n",), (("make", "x", "b"), ("again", (call("x", "a"), ("bring", "n"))), ("make", "x", "n")))
        self.told("saves flow 999999 0", "0 0", one)
        self.told("saves flow 999999 1", "2 0", one)
        self.told("saves flow 999999 2", "4 2", one)
        self.told("saves flow 999999 9 9", "18 16", one)
        self.told("saves flow 999999", "0 0", one)

    def test_without_calls(self):
        for way in WAYS:
            self.told("saves " + way + " 5", "0 0", program())


class RowsTest(Asked):
    def test_no_rows_behind_asked(self):
        self.assertEqual(answers("kind a\nmain\nasked"), ())
        self.assertEqual(asked(RICH), ())

    def test_several(self):
        self.assertEqual(asked(ONE, "run 0", "told flow", "run 0", "saves flow 100", "made flow"), (
            "long 0; looks 0; said -", "4:c; 5:a,f; 6:a,c,f; 7:-", "long 0; looks 0; said -", "5 2",
            "4:straight a until n,o; 5:asks a,f; 6:plain; 7:plain",
        ))

    def test_as_reckoned_in_another_manner(self):
        for one in [RICH] + [make(number) for number in range(12) for make in (chance.program, chance.late_program)]:
            for way in WAYS:
                shapes = remade.made(one, way)
                kinds = remade.told(one, way, reckoned.there_at_first(one))
                log, looks, end = reckoned.Walk(one, (2, 0, 1), 150).run()
                told = "; ".join(str(number) + ":" + (",".join(kinds[number]) or "-") for number in sorted(kinds)) or "-"
                said = " ".join(entry[2] for entry in log if entry[0] == "say") or "-"
                ending = " ".join(str(part) for part in end if part is not None)
                self.assertEqual(asked(one, "told " + way, "made " + way, "run 150 2 0 1", f"saves {way} 150 2 0 1"), (
                    told, "; ".join(self.made_call(*entry) for entry in shapes) or "-", f"{ending}; looks {looks}; said {said}",
                    f"{looks} {remade.looks(one, shapes, log)}",
                ))

    def made_call(self, number, form, names):
        words = {"straight": lambda: " " + form[1], "asks": lambda: " " + ",".join(name for name, answer in form[1]), "plain": str}
        return f"{number}:{form[0]}" + words[form[0]]() + (" until " + ",".join(names) if names else "")

    def test_same_again(self):
        text = show_program(ONE) + "\nasked\nrun 100\nmade flow"
        self.assertEqual(answers(text), answers(text))


class NoRowTest(Asked):
    def refused(self, number, *rows, one=ONE):
        with self.assertRaises(NoRow) as caught:
            asked(one, *rows)
        error = caught.exception
        self.assertEqual(error.row, number, rows)
        self.assertIs(isinstance(error.row, bool), False)
        self.assertIsInstance(error, SureError)
        self.assertNotIsInstance(error, NoProgram)

    def test_words_that_ask_nothing(self):
        for row in ("", " ", "asked", "x", "tell flow", "Told flow", "telling", "call x y a be", "main", "kind a", "say hm", "flow", "0", "-"):
            self.refused(0, row)
            self.refused(1, "told flow", row)

    def test_ways_that_are_none(self):
        for way in ("", "x", "tre", "trees", "Flow", "flow,made", "a", "0", "none", "-"):
            self.refused(0, "told " + way)
            self.refused(0, "made " + way)
            self.refused(0, "saves " + way + " 5")

    def test_too_few_words(self):
        for row in ("told", "made", "run", "saves", "saves flow", "saves 5", "saves 5 flow"):
            self.refused(0, row)

    def test_too_many_words(self):
        for row in ("told flow flow", "told flow x", "made flow made", "made flow 5", "told flow 5", "run flow 5", "run 5 flow"):
            self.refused(0, row)

    def test_blanks_more(self):
        for row in ("told flow", "made flow", "run 5 1", "saves flow 5 1"):
            self.assertEqual(len(asked(ONE, row)), 1)
            self.refused(0, row + " ")
            self.refused(0, " " + row)
            self.refused(0, row.replace(" ", "  ", 1))
            self.refused(0, row.replace(" ", "\t", 1))
            self.refused(0, row + "\r")
            self.refused(1, row, "")

    def test_figures(self):
        for word in ("1000000", "0000001", "00", "01", "007", "000000", "-1", "-0", "+1", "1.0", "1e3", "x", "", "1_0", "0x1", "\u0661", "\u00b2",
                     "1 ", " 1", "one", "12345a", "9999999"):
            self.refused(0, "run " + word)
            self.refused(0, "saves flow " + word)
            self.refused(0, "run 5 " + word)
            self.refused(0, "saves flow 5 1 " + word)

    def test_choices(self):
        for word in ("10", "99", "11", "-1", "00", "09", "\u0661", "a", "+1", ""):
            self.refused(0, "run 5 " + word)
            self.refused(0, "run 5 0 " + word)
            self.refused(0, "run 5 " + word + " 0")
            self.refused(0, "saves flow 5 " + word)
        for word in "0123456789":
            self.assertEqual(len(asked(ONE, "run 5 " + word, "saves flow 5 0 " + word)), 2)

    def test_the_first_one(self):
        good = ("told flow", "run 5", "saves tree 5 1", "made apart")
        for at in range(5):
            self.refused(at, *good[:at], "no", *good[at:])
            self.refused(at, *good[:at], "no", *good[at:], "nor")

    def test_asked_twice(self):
        self.refused(0, "asked")
        self.refused(0, "asked", "told flow")
        self.refused(2, "told flow", "run 5", "asked")

    def test_a_line_feed_behind(self):
        self.refused(0, "")
        self.refused(1, "told flow", "")


class NoProgramTest(Asked):
    def refused(self, thing):
        with self.assertRaises(NoProgram) as caught:
            answers(thing)
        self.assertNotIsInstance(caught.exception, NoRow)

    def test_no_row_asked(self):
        for text in ("kind a\nmain", show_program(ONE), "kind a\nmain\n", "kind a\nmain\ntold flow", "kind a\nmain\nasked ", "kind a\nmain\n asked",
                     "kind a\nmain\nasked told flow", "kind a\nmain asked", "kind a\nmain\nAsked", "kind a\nmain\nasked\r"):
            self.refused(text)

    def test_no_program_ahead_of_asked(self):
        for text in ("asked", "\nasked", "asked\nkind a\nmain", "kind a\nasked", "main\nasked", "kind a\nmain\n\nasked", "kind a\nmain\nx\nasked",
                     "kind a\nasked\nmain\nasked", "told flow\nasked", "kind a\nkind a\nmain\nasked", "kind a\nmain\nbring a\nasked"):
            self.refused(text)
            self.refused(text + "\ntold flow")

    def test_ahead_of_no_row(self):
        self.refused("kind a\nasked\nno")
        self.refused("asked\nno\nasked")
        self.refused("kind a\nmain\nno")

    def test_things_that_are_no_texts(self):
        text = show_program(ONE) + "\nasked"
        for thing in [None, (), text.encode(), [text], (text,), {text: text}, Unkind(), 5, True, ("kind a", "main", "asked"), ["asked"]]:
            self.refused(thing)
        for thing in plain_things() + nested_things() + strange_tuples():
            self.refused(thing)

    def test_nothing_changed(self):
        thing = ["kind a", "main", "asked"]
        before = copy.deepcopy(thing)
        self.refused(thing)
        self.assertEqual(thing, before)


if __name__ == "__main__":
    unittest.main()
