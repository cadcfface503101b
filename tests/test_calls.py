import copy
import unittest

from samples import RICH, SAY, deed, kind, program
from surecall.programs import calls, is_program
from surecall.rows import numbered


def call(x, name="do"):
    return ("call", x, "y", "a", name, ())


class CallsTest(unittest.TestCase):
    def test_none(self):
        self.assertEqual(calls(program()), ())
        self.assertEqual(calls(program(rows=(SAY, ("either", (SAY,), ()), ("again", (SAY,))))), ())

    def test_mains_rows_are_numbered_first(self):
        one = program((kind("a", None, (deed("do", (), (call("p"), SAY, call("q"))),)),), (), (SAY, call("r"), SAY))
        self.assertTrue(is_program(one))
        self.assertEqual(calls(one), (
            (1, ("", ""), call("r")),
            (3, ("a", "do"), call("p")),
            (5, ("a", "do"), call("q")),
        ))

    def test_kind_by_kind_and_deed_by_deed_as_they_stand(self):
        one = program((
            kind("z", None, (deed("top", (), (call("p"),)), deed("be", (), (SAY, call("q"))))),
            kind("a", None, (deed("do", (), (call("r"),)), deed("be", (), ()))),
            kind("m", "z", (deed("be", (), (call("s"),)),)),
        ))
        self.assertTrue(is_program(one))
        self.assertEqual(calls(one), (
            (0, ("z", "top"), call("p")),
            (2, ("z", "be"), call("q")),
            (3, ("a", "do"), call("r")),
            (4, ("m", "be"), call("s")),
        ))

    def test_a_row_ahead_of_those_in_it_and_rows_ahead_of_others(self):
        rows = (
            call("c"),
            ("either", (call("e"), SAY, call("g")), (SAY, call("i"))),
            call("j"),
            ("again", (("either", (), (call("m"), ("again", (call("o"),)))), call("p"))),
            call("q"),
        )
        body = (("either", (("again", (SAY, call("u"))), call("v")), (call("w"),)), call("x"))
        one = program((kind("a", None, (deed("do", (), body),)),), (), rows)
        self.assertTrue(is_program(one))
        main, do = ("", ""), ("a", "do")
        self.assertEqual(calls(one), (
            (0, main, call("c")),
            (2, main, call("e")),
            (4, main, call("g")),
            (6, main, call("i")),
            (7, main, call("j")),
            (10, main, call("m")),
            (12, main, call("o")),
            (13, main, call("p")),
            (14, main, call("q")),
            (18, do, call("u")),
            (19, do, call("v")),
            (20, do, call("w")),
            (21, do, call("x")),
        ))

    def test_of_the_rich_program(self):
        self.assertEqual([(number, body) for number, body, row in calls(RICH)], [
            (3, ("", "")),
            (7, ("", "")),
            (13, ("", "")),
            (18, ("base", "greet")),
            (20, ("left", "greet")),
            (22, ("left", "greet")),
        ])

    def test_rising_and_tuples(self):
        told = calls(RICH)
        self.assertIsInstance(told, tuple)
        self.assertEqual(list(told), sorted(told))
        for entry in told:
            self.assertIsInstance(entry, tuple)
            self.assertEqual(entry[2][0], "call")

    def test_every_number_stands_once(self):
        self.assertEqual([number for number, body, row in numbered(RICH)], list(range(27)))

    def test_somewhat_beyond_the_bounds(self):
        rows = (call("c"),)
        for deep in range(8):
            rows = (("again", rows),) + (SAY,) * 2
        one = program((kind("a", None, (deed("do"),)),), (), rows + (SAY,) * 25 + (call("z"),))
        numbers = [number for number, body, row in calls(one)]
        self.assertEqual(numbers, [8, 8 + 1 + 16 + 25])

    def test_same_again_and_nothing_changed(self):
        before = copy.deepcopy(RICH)
        self.assertEqual(calls(RICH), calls(RICH))
        self.assertEqual(RICH, before)


if __name__ == "__main__":
    unittest.main()
