"""What is refused as no program's text, always with NoProgram."""

import random
import unittest

import chance
from samples import RICH
from surecall.errors import NoProgram, NoRow, SureError
from surecall.programs import is_program
from surecall.texts import read_program, show_program
from things import Unkind, nested_things, plain_things, strange_tuples

# Kind a has deed do with one param, b is under it, n is late.
HEAD = ("kind a", "deed do p", "gives p", "kind b under a", "late kind n")
GOOD = HEAD + ("main", "make x a", "either", "say hm", "or", "end", "again", "end", "call y x a do x", "bring n")


def text_of(*rows):
    return "\n".join(rows)


class Refused(unittest.TestCase):
    def refused(self, thing, told=None):
        try:
            read_program(thing)
        except NoProgram as error:
            self.assertIsInstance(error, SureError)
            self.assertIsInstance(error, ValueError)
            self.assertNotIsInstance(error, NoRow)
        else:
            self.fail(("taken", told, thing))

    def refused_rows(self, *rows):
        self.refused(text_of(*rows))

    def refused_in_main(self, *rows):
        self.refused_rows(*HEAD, "main", *rows)
        self.refused_rows(*HEAD, "main", "say hm", *rows)
        self.refused_rows(*HEAD, "main", *rows, "say hm")

    def refused_in_deed(self, *rows):
        self.refused_rows("kind a", "deed do p", *rows, "gives p", "kind b under a", "late kind n", "main")

    def taken_in_main(self, *rows):
        self.assertIs(is_program(read_program(text_of(*HEAD, "main", *rows))), True)


class SignsTest(Refused):
    def test_the_good_one(self):
        self.assertEqual(show_program(read_program(text_of(*GOOD))), text_of(*GOOD))

    def test_a_blank_more(self):
        text = text_of(*GOOD)
        for at in range(len(text) + 1):
            self.refused(text[:at] + " " + text[at:], at)
            self.refused(text[:at] + "\t" + text[at:], at)

    def test_a_blank_or_a_line_feed_fewer(self):
        text = text_of(*GOOD)
        for at, sign in enumerate(text):
            if sign in " \n":
                self.refused(text[:at] + text[at + 1:], at)
                self.refused(text[:at] + "\r\n" + text[at + 1:], at)

    def test_a_blank_for_a_line_feed_and_back(self):
        text = text_of(*GOOD)
        for at, sign in enumerate(text):
            if sign == "\n":
                self.refused(text[:at] + " " + text[at + 1:], at)
            if sign == " ":
                self.refused(text[:at] + "\n" + text[at + 1:], at)

    def test_a_row_without_words(self):
        for at in range(len(GOOD) + 1):
            self.refused_rows(*GOOD[:at], "", *GOOD[at:])
            self.refused_rows(*GOOD[:at], " ", *GOOD[at:])

    def test_a_line_feed_behind_or_ahead(self):
        self.refused(text_of(*GOOD) + "\n")
        self.refused("\n" + text_of(*GOOD))
        self.refused("kind a\nmain\n")
        self.refused("kind a\nmain\n\n")

    def test_other_signs(self):
        text = text_of(*GOOD)
        for sign in ("A", "1", "0", "_", "-", ".", "\u00e4", "\ud800", "\x00", "\u2028", "\x0b", "\x0c", "\x1c", "\x85", "\u00a0"):
            for at in range(len(text)):
                self.refused(text[:at] + sign + text[at + 1:], (at, sign))
                self.refused(text[:at] + sign + text[at:], (at, sign))

    def test_words_of_nine_letters(self):
        for rows in (
            ("kind ninewords", "main"), ("kind a", "kind ninewords under a", "main"), ("kind a", "deed ninewords", "gives", "main"),
            ("kind a", "deed do ninewords", "gives", "main"), ("kind a", "deed do", "gives ninewords", "main"),
            ("kind a", "main", "say ninewords"), ("kind a", "main", "copy ninewords x"), ("kind a", "main", "put x ninewords x"),
        ):
            self.refused_rows(*rows)
            self.assertIs(is_program(read_program(text_of(*rows).replace("ninewords", "eightlet"))), True)

    def test_nothing(self):
        self.refused("")
        self.refused(" ")
        self.refused("\n")


class ShapeTest(Refused):
    def test_a_row_left_out(self):
        # Without one of these it is another program.
        may_be = ("make x a", "say hm", "call y x a do x", "bring n", "kind b under a")
        for at, row in enumerate(GOOD):
            if row not in may_be:
                self.refused_rows(*GOOD[:at], *GOOD[at + 1:])

    def test_a_word_more_or_fewer(self):
        for row in ("make x a", "copy x y", "put x f y", "take x y f", "say hm", "call x y a do z", "bring n", "either", "again"):
            self.taken_in_main(*{"either": (row, "or", "end"), "again": (row, "end")}.get(row, (row,)))
            for words in (row + " x", row + " a", row.rpartition(" ")[0], row.split(" ")[0] + " x" + row[len(row.split(" ")[0]):]):
                if words != row:
                    self.refused_in_main(words)
        for row in ("or x", "end x"):
            self.refused_in_main("either", row.replace("end", "or"), "end")
            self.refused_in_main("again", row.replace("or", "end"))
            self.refused_in_main("either", "or", row)
        for row in ("make", "copy", "put", "take", "say", "call", "bring", "call x", "call x y", "call x y a", "call x y a do"):
            self.refused_in_main(row)

    def test_rows_that_are_none(self):
        for row in ("x", "makes x a", "or", "end", "gives", "gives x", "main", "main x", "kind c", "late kind c", "deed be", "late n",
                    "asked", "MAKE x a", "did 1 a a"):
            self.refused_in_main(row)
            if row != "gives":
                self.refused_rows("kind a", "deed do p", row, "gives p", "main")

    def test_an_end_missing_or_too_many(self):
        for rows in (
            ("either", "or"), ("either", "end"), ("either",), ("again",), ("either", "or", "or", "end"), ("either", "or", "end", "end"),
            ("again", "end", "end"), ("end",), ("or",), ("again", "again", "end"), ("either", "again", "or", "end"),
            ("either", "or", "again", "end"), ("either", "either", "or", "end"), ("either", "say a", "end", "or", "say b", "end"),
        ):
            self.refused_in_main(*rows)
            self.refused_in_deed(*rows)

    def test_an_or_in_again(self):
        for rows in (("again", "or", "end"), ("again", "say a", "or", "say b", "end")):
            self.refused_in_main(*rows)
            self.refused_in_deed(*rows)

    def test_rows_that_reach_over_a_body_s_end(self):
        self.refused_rows("kind a", "deed do", "again", "gives", "main", "end")
        self.refused_rows("kind a", "deed do", "again", "gives", "end", "main")
        self.refused_rows("kind a", "deed do", "either", "gives", "or", "gives", "end", "main")

    def test_kinds(self):
        for row in ("kind", "kind a b", "kind a under", "kind a under a", "kind a under b c", "kind a b c", "kind a over b",
                    "under b kind a", "late", "late a", "late late kind a", "late deed a", "kind late a", "late main"):
            self.refused_rows("kind b", row, "main")

    def test_deeds(self):
        for rows in (
            ("deed", "gives"), ("deed do",), ("gives",), ("deed do", "say a"), ("deed do", "gives x y"), ("deed do", "gives", "gives"),
            ("deed do", "gives", "say a"), ("deed do", "deed be", "gives"), ("deed do", "deed be", "gives", "gives"), ("say a",),
            ("deed do", "gives", "gives x"), ("deed do", "end"), ("late deed do", "gives"),
        ):
            self.refused_rows("kind a", *rows, "main")

    def test_deeds_ahead_of_kinds(self):
        self.refused_rows("deed do", "gives", "kind a", "main")
        self.refused_rows("deed do", "gives", "main")

    def test_main(self):
        self.refused_rows("kind a")
        self.refused_rows("main")
        self.refused_rows("main", "kind a")
        self.refused_rows("kind a", "main", "main")
        self.refused_rows("main", "kind a", "main")
        self.refused_rows("kind a", "main", "kind b", "main")
        self.refused_rows("kind a", "main x")
        self.refused_rows("kind a", "say hm")
        self.refused_rows("kind a", "main", "deed do", "gives")

    def test_deeply_nested_texts(self):
        for many in (5, 6, 60, 5000, 100000):
            self.refused_in_main(*("again",) * many)
            self.refused_in_main(*("again",) * many, *("end",) * many)
            self.refused_in_main(*("either",) * many, *("or", "end") * many)
            self.refused_in_main(*("either", "or") * many, *("end",) * many)


class NoProgramTest(Refused):
    """Texts of the right shape of what is no program."""

    def test_kinds(self):
        self.refused_rows("kind a", "kind a", "main")
        self.refused_rows("late kind a", "kind a", "main")
        self.refused_rows("late kind a", "late kind a", "main")
        self.refused_rows("kind a under b", "kind b", "main")
        self.refused_rows("kind a under a", "main")
        self.refused_rows("kind a under z", "main")
        self.refused_rows("late kind a", "kind b under a", "main")
        self.refused_rows(*[f"kind k{letter}" for letter in "abcdefghijklm"], "main")
        self.refused_rows("kind k", *[f"late kind k{letter}" for letter in "abcdefg"], "main")

    def test_deeds(self):
        self.refused_rows("kind a", "deed do", "gives", "deed do", "gives", "main")
        self.refused_rows("kind a", "deed do p p", "gives", "main")
        self.refused_rows("kind a", "deed do own", "gives", "main")
        self.refused_rows("kind a", "deed do p q r s t", "gives", "main")
        self.refused_rows("kind a", "deed do p", "gives", "kind b under a", "deed do", "gives", "main")
        deeds = [row for letter in "abcdefg" for row in (f"deed d{letter}", "gives")]
        self.refused_rows("kind a", *deeds, "main")
        self.assertIs(is_program(read_program(text_of("kind a", *deeds[2:], "main"))), True)

    def test_own_where_it_may_not_be(self):
        for row in ("make own a", "copy own x", "take own x f", "call own x a do x"):
            self.refused_in_main(row)
            self.refused_in_deed(row)
        for row in ("copy x own", "put own f x", "put x f own", "take x own f", "call x own a do x", "call x y a do own"):
            self.refused_in_main(row)

    def test_kinds_and_deeds_that_are_not_there(self):
        for row in ("make x z", "call x y z do x", "call x y a go x", "call x y n do x", "bring z", "call x y a do", "call x y a do x y",
                    "call x y b do", "bring a", "bring b", "make x do"):
            self.refused_in_main(row)
            self.refused_in_deed(row)

    def test_five_within_one_another(self):
        four = ("again",) * 4
        self.taken_in_main(*four, "say hm", *("end",) * 4)
        self.refused_in_main(*four, "again", "end", *("end",) * 4)
        self.refused_in_main(*four, "again", "say hm", "end", *("end",) * 4)
        self.refused_in_main(*four, "either", "or", "end", *("end",) * 4)
        self.refused_in_main(*("either", "or") * 4, "either", "or", "end", *("end",) * 4)
        in_deed = ("kind a", "deed do", *four, "say hm", *("end",) * 4, "gives", "main")
        self.assertEqual(show_program(read_program(text_of(*in_deed))), text_of(*in_deed))
        self.refused_in_deed(*four, "again", "end", *("end",) * 4)
        self.refused_in_deed(*four, "either", "say hm", "or", "end", *("end",) * 4)

    def test_too_many_rows(self):
        says = ("say hm",) * 20
        self.taken_in_main(*says)
        self.refused_in_main(*says, "say hm")
        self.refused_in_deed(*says, "say hm")
        self.refused_in_main("again", *says, "say hm", "end")
        self.refused_in_main("either", "or", *says, "say hm", "end")
        eighty = ("again", *says, "end") * 3 + says[:17]
        self.taken_in_main(*eighty)
        self.refused_in_main(*eighty, "say hm")
        self.refused(text_of(*HEAD, "main", *("say hm",) * 100000))


class AnythingTest(Refused):
    def test_things_that_are_no_texts(self):
        text = text_of(*GOOD)
        for thing in [None, (), ("kind a", "main"), RICH, text.encode(), bytearray(text.encode()), [text], (text,), {text}, Unkind(), 5, True]:
            self.refused(thing)
        for thing in plain_things() + nested_things() + strange_tuples():
            self.refused(thing)

    def test_texts_of_all_sorts(self):
        for thing in ("a", "kind", "kind a", "asked", "main", "\x00", "\ud800", "kind a\rmain", "kind a\x0bmain", "kind a main", repr(RICH)):
            self.refused(thing)

    def test_rows_by_chance(self):
        # Whatever is taken is written as it was read.
        luck, found = random.Random(7), {True: 0, False: 0}
        for at in range(1500):
            rows = show_program(chance.program(at % 30)).split("\n")
            place, other = luck.randrange(len(rows)), luck.randrange(len(rows))
            how = at % 4
            if how == 0:
                del rows[place]
            elif how == 1:
                rows[place], rows[other] = rows[other], rows[place]
            elif how == 2:
                rows.insert(place, rows[other])
            else:
                words = rows[place].split(" ")
                words[luck.randrange(len(words))] = luck.choice(rows[other].split(" "))
                rows[place] = " ".join(words)
            text = "\n".join(rows)
            try:
                one = read_program(text)
            except NoProgram:
                found[False] += 1
            else:
                self.assertIs(is_program(one), True)
                self.assertEqual(show_program(one), text)
                found[True] += 1
        self.assertGreater(min(found.values()), 200)


if __name__ == "__main__":
    unittest.main()
