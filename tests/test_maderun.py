"""The made run: the plain run's log and end, with fewer looks."""

import copy
import unittest

import chance
import remade
from samples import RICH, deed, kind, program, says
from surecall.maderun import made_run
from surecall.making import made
from surecall.plainrun import plain_run
from surecall.programs import is_program
from surecall.savings import turned_back
from why_cases import call

WAYS = ("tree", "made", "flow", "apart")
BE = (deed("be"),)
PLAIN = ("plain",)


def run(one, way, choices=(), most=1000):
    return made_run(one, made(one, way), choices, most)


class Run(unittest.TestCase):
    def as_plain(self, one, choices=(), most=1000):
        """The plain run's end, when the made runs' logs and ends are found to be the plain one's."""
        self.assertIs(is_program(one), True)
        plain = plain_run(one, choices, most)
        for way in WAYS:
            found = run(one, way, choices, most)
            self.assertIsInstance(found, tuple)
            self.assertEqual((found[0], found[2]), (plain[0], plain[2]), way)
            self.assertLessEqual(found[1], plain[1])
            self.assertGreaterEqual(found[1], 0)
        return plain[2]


class EndsTest(Run):
    KINDS = (
        kind("a", None, (deed("be", (), (("say", "be"),)), deed("do", (), (call("own", "a", "do"),)))),
        kind("b", "a"), kind("c", None, BE), kind("n"),
    )

    def one(self, *rows):
        return program(self.KINDS, ("n",), (("make", "x", "b"), call("x", "a")) + rows)

    def test_done(self):
        self.assertEqual(self.as_plain(self.one()), ("done", None))
        self.assertEqual(self.as_plain(program()), ("done", None))
        self.assertEqual(self.as_plain(self.one(*says(3))), ("done", None))

    def test_absent(self):
        self.assertEqual(self.as_plain(self.one(("make", "x", "n"), ("say", "hm"))), ("absent", 2))

    def test_nothing(self):
        self.assertEqual(self.as_plain(self.one(call("y", "a"))), ("nothing", 2))
        self.assertEqual(self.as_plain(self.one(("put", "y", "f", "x"))), ("nothing", 2))
        self.assertEqual(self.as_plain(self.one(("take", "x", "y", "f"))), ("nothing", 2))

    def test_unfit(self):
        self.assertEqual(self.as_plain(self.one(call("x", "c"))), ("unfit", 2))
        self.assertEqual(self.as_plain(self.one(("make", "x", "c"), call("x", "a"))), ("unfit", 3))

    def test_deep(self):
        self.assertEqual(self.as_plain(self.one(call("x", "a", "do"))), ("deep", 4))
        self.assertEqual(run(self.one(call("x", "a", "do")), "flow")[1], 0)

    def test_long(self):
        one = self.one(("again", says(2)))
        for most in range(-1, 9):
            self.as_plain(one, (2,), most)
        self.assertEqual(self.as_plain(one, (2,), 0), ("long", 0))
        self.assertEqual(self.as_plain(one, (2,), -5), ("long", 0))
        self.assertEqual(self.as_plain(one, (2,), 3), ("long", 2))
        self.assertEqual(self.as_plain(one, (2,), 8), ("done", None))

    def test_what_a_run_does(self):
        inner = (("put", "own", "f", "p"), ("take", "r", "own", "f"), ("say", "in"))
        kinds = (kind("a", None, (deed("do", ("p",), inner, "r"), deed("be", (), (("say", "be"),)))), kind("b", "a", (BE[0],)))
        rows = (
            ("make", "x", "a"), ("make", "y", "b"), call("x", "a", "do", ("y",), "z"), call("z", "a"),
            ("either", (("say", "no"),), (("again", (call("x", "a"),)),)),
        )
        self.assertEqual(self.as_plain(program(kinds, (), rows), (1, 2)), ("done", None))
        self.assertEqual(run(program(kinds, (), rows), "flow", (1, 2))[0], (
            ("did", 2, "a", "a"), ("say", 10, "in"), ("did", 3, "b", "b"),
            ("did", 7, "a", "a"), ("say", 11, "be"), ("did", 7, "a", "a"), ("say", 11, "be"),
        ))


class LooksTest(Run):
    # Asked for be: of f one, of b two, of c three, of d four.
    KINDS = (kind("a", None, BE), kind("b", "a"), kind("c", "b"), kind("d", "c"), kind("f", "a", BE), kind("g", "a", BE))

    def one(self, *names):
        """Makes of x one of the kinds, by the choices: as many ones as the place of it."""
        rows = (("make", "x", names[-1]),)
        for name in reversed(names[:-1]):
            rows = (("either", (("make", "x", name),), rows),)
        return program(self.KINDS, (), rows + (call("x", "a"),))

    def looks(self, way, *names):
        one = self.one(*names)
        self.assertIs(is_program(one), True)
        found = []
        for at in range(len(names)):
            self.as_plain(one, (1,) * at)
            found.append((run(one, way, (1,) * at)[1], plain_run(one, (1,) * at, 1000)[1]))
        return found

    def test_none_of_a_straight_call(self):
        for way in WAYS[1:]:
            self.assertEqual(self.looks(way, "d"), [(0, 4)])
            self.assertEqual(self.looks(way, "a", "b", "c", "d"), [(0, 1), (0, 2), (0, 3), (0, 4)])

    def test_the_place_s_cost_of_one_that_asks(self):
        for way in WAYS[1:]:
            self.assertEqual(self.looks(way, "b", "c", "d", "f"), [(2, 2), (3, 3), (3, 4), (1, 1)])
            self.assertEqual(self.looks(way, "d", "f"), [(1, 4), (1, 1)])
            self.assertEqual(self.looks(way, "c", "d", "f"), [(2, 3), (2, 4), (1, 1)])

    def test_asked_of_a_plain_one(self):
        for way in WAYS[1:]:
            self.assertEqual(self.looks(way, "f", "g", "d"), [(1, 1), (1, 1), (4, 4)])
        self.assertEqual(self.looks("tree", "d"), [(4, 4)])

    def test_all_calls_done_together(self):
        one = program(self.KINDS, (), (("make", "x", "d"), ("make", "y", "c"), ("make", "y", "f"), ("make", "z", "c"), ("again", (
            call("x", "a"), call("y", "a"), call("z", "a"),
        ))))
        self.assertEqual(made(one, "flow"), (
            (5, ("straight", "a"), ()), (6, ("asks", (("f", "f"), ("c", "a"))), ()), (7, ("straight", "a"), ()),
        ))
        self.assertEqual((run(one, "flow", (3,))[1], plain_run(one, (3,), 1000)[1]), (3, 24))
        self.assertEqual((run(one, "flow", (3,), 7)[1], plain_run(one, (3,), 7)[1]), (1, 5))


class ComingTest(Run):
    KINDS = (kind("a", None, BE), kind("b", "a"), kind("m", "a"), kind("n", "m", BE), kind("o", "n"), kind("p", None))
    LATE = ("m", "n", "o", "p")

    def one(self, *rows):
        """The call has the kind b, and n once it is there; of another variable b alone."""
        rows = (("make", "x", "b"), ("make", "y", "b"), ("again", (call("x", "a"), call("y", "a")) + rows),
                ("say", "hm"), ("make", "x", "n"))
        return program(self.KINDS, self.LATE, rows)

    def looks(self, times, *rows):
        found = []
        one = self.one(*rows)
        self.assertEqual(made(one, "flow"), ((3, ("straight", "a"), ("n", "o")), (4, ("straight", "a"), ())))
        for many in range(1, times + 1):
            self.as_plain(one, (many,))
            found.append(run(one, "flow", (many,))[1])
        return found

    def test_ahead_of_it_they_are_not_plain(self):
        self.assertEqual(self.looks(3), [0, 0, 0])
        self.assertEqual(self.looks(3, ("bring", "n")), [0, 2, 4])

    def test_by_another_kind_they_are_not_plain(self):
        self.assertEqual(self.looks(3, ("bring", "m")), [0, 0, 0])
        self.assertEqual(self.looks(3, ("bring", "p")), [0, 0, 0])

    def test_when_an_elder_comes_with_it(self):
        self.assertEqual(self.looks(3, ("bring", "o")), [0, 2, 4])
        kinds = (kind("a", None, BE), kind("m", "a", BE), kind("n", "m"))
        rows = (("make", "x", "a"), ("again", (call("x", "a"), ("bring", "n"))), ("make", "x", "m"))
        one = program(kinds, ("m", "n"), rows)
        self.assertEqual(made(one, "flow"), ((2, ("straight", "a"), ("m", "n")),))
        self.assertEqual([run(one, "flow", (many,))[1] for many in range(4)], [0, 0, 1, 2])

    def test_one_that_comes_again_or_at_the_end(self):
        self.assertEqual(self.looks(3, ("bring", "n"), ("bring", "n")), [0, 2, 4])
        one = self.one()
        one = (one[0], one[1], one[2] + (("bring", "n"),))
        self.as_plain(one, (3,))
        self.assertEqual(run(one, "flow", (3,))[1], 0)

    def test_within_a_call_under_way(self):
        kinds = (kind("a", None, (deed("be", (), (("bring", "n"), call("own", "a", "do"))), deed("do"))), kind("n", "a", (deed("do"),)))
        rows = (("make", "x", "a"), ("again", (call("x", "a", "do"), call("x", "a"))), ("make", "x", "n"))
        one = program(kinds, ("n",), rows)
        self.assertEqual(made(one, "flow"), (
            (2, ("straight", "a"), ("n",)), (3, ("straight", "a"), ()), (6, ("straight", "a"), ("n",)),
        ))
        self.assertEqual([run(one, "flow", (many,))[1] for many in range(4)], [0, 1, 3, 5])
        self.as_plain(one, (3,))

    def test_calls_that_ask(self):
        kinds = (kind("a", None, BE), kind("b", "a", BE), kind("c", "b"), kind("n", "a", BE))
        again = ("again", (call("x", "b"), call("x", "a"), ("bring", "n")))
        one = program(kinds, ("n",), (("make", "x", "a"), ("make", "x", "c"), again, ("make", "x", "n")))
        self.assertEqual(made(one, "flow"), ((3, ("straight", "b"), ()), (4, ("asks", (("a", "a"), ("c", "b"))), ("n",))))
        self.assertEqual([run(one, "flow", (many,))[1] for many in range(4)], [0, 1, 3, 5])
        self.as_plain(one, (3,))

    def test_of_a_made_that_was_turned_back(self):
        one = self.one(("bring", "n"))
        back = turned_back(made(one, "flow"), ("n",))
        plain = plain_run(one, (2,), 1000)
        self.assertEqual(made_run(one, back, (2,), 1000), (plain[0], 4, plain[2]))
        self.assertEqual(made_run(one, turned_back(back, ("p",)), (2,), 1000), (plain[0], 4, plain[2]))
        back = turned_back(made(one, "flow"), ("p",))
        self.assertEqual(made_run(one, back, (2,), 1000), (plain[0], 2, plain[2]))
        # What is left as it was is turned back by what comes still.
        kinds = (kind("a", None, BE), kind("m", "a", BE), kind("n", "a", BE))
        rows = (("make", "x", "a"), ("make", "y", "a"), ("again", (call("x", "a"), call("y", "a"), ("bring", "n"))),
                ("make", "x", "m"), ("make", "y", "n"))
        one = program(kinds, ("m", "n"), rows)
        self.assertEqual([run(one, "flow", (many,))[1] for many in range(4)], [0, 0, 1, 2])
        back = turned_back(made(one, "flow"), ("m",))
        self.assertEqual([made_run(one, back, (many,), 1000)[1] for many in range(4)], [0, 1, 3, 5])


class ChanceTest(Run):
    def test_looks_as_reckoned_in_another_manner(self):
        for number in range(40):
            for one in (chance.program(number), chance.late_program(number)):
                for choices, most in [((2,), 200), ((2, 1), 200)] + chance.runs(number, 2):
                    self.as_plain(one, choices, most)
                    for way in WAYS:
                        log, looks, end = run(one, way, choices, most)
                        self.assertEqual(looks, remade.looks(one, made(one, way), log))

    def test_same_again_and_nothing_changed(self):
        for one in (RICH, chance.late_program(5)):
            for way in WAYS:
                shapes = made(one, way)
                before = copy.deepcopy((one, shapes))
                self.assertEqual(made_run(one, shapes, (2, 1), 200), made_run(one, shapes, (2, 1), 200))
                self.assertEqual((one, shapes), before)


if __name__ == "__main__":
    unittest.main()
