"""What is made, turned back by kinds that come, and how many looks it saves."""

import copy
import itertools
import unittest

import chance
import reckoned
import remade
from samples import RICH, deed, kind, program
from surecall.maderun import made_run
from surecall.making import made
from surecall.plainrun import plain_run
from surecall.savings import saved, straight_calls, turned_back
from why_cases import call

WAYS = ("tree", "made", "flow", "apart")
BE = (deed("be"),)
PLAIN = ("plain",)
ASKS = ("asks", (("a", "a"), ("b", "b")))
MADE = (
    (1, ("straight", "a"), ("m", "n")),
    (2, ASKS, ("n", "o")),
    (4, PLAIN, ()),
    (7, ("straight", "b"), ()),
    (9, ASKS, ()),
    (12, ("straight", "n"), ("p",)),
)


class TurnedBackTest(unittest.TestCase):
    def test_by_none(self):
        self.assertEqual(turned_back(MADE, ()), MADE)
        self.assertEqual(turned_back((), ()), ())
        self.assertEqual(turned_back((), ("m",)), ())

    def test_by_one(self):
        self.assertEqual(turned_back(MADE, ("m",)), ((1, PLAIN, ()),) + MADE[1:])
        self.assertEqual(turned_back(MADE, ("n",)), ((1, PLAIN, ()), (2, PLAIN, ())) + MADE[2:])
        self.assertEqual(turned_back(MADE, ("o",)), MADE[:1] + ((2, PLAIN, ()),) + MADE[2:])
        self.assertEqual(turned_back(MADE, ("p",)), MADE[:5] + ((12, PLAIN, ()),))

    def test_by_some(self):
        self.assertEqual(turned_back(MADE, ("m", "o")), ((1, PLAIN, ()), (2, PLAIN, ())) + MADE[2:])
        self.assertEqual(turned_back(MADE, ("m", "p")), ((1, PLAIN, ()),) + MADE[1:5] + ((12, PLAIN, ()),))
        self.assertEqual(turned_back(MADE, ("p", "m")), turned_back(MADE, ("m", "p")))

    def test_by_the_same_twice(self):
        self.assertEqual(turned_back(MADE, ("m", "m")), turned_back(MADE, ("m",)))
        self.assertEqual(turned_back(turned_back(MADE, ("m",)), ("m",)), turned_back(MADE, ("m",)))

    def test_by_early_kinds_and_those_that_none_names(self):
        for came in (("a",), ("b",), ("a", "b"), ("q",), ("a", "q")):
            self.assertEqual(turned_back(MADE, came), MADE)
        self.assertEqual(turned_back(MADE, ("a", "m")), turned_back(MADE, ("m",)))

    def test_by_some_and_then_by_others_as_by_all(self):
        for many in range(4):
            for ones in itertools.permutations(("a", "m", "n", "o", "p"), many):
                for others in (("m",), ("n", "p"), ("o", "a"), ()):
                    self.assertEqual(turned_back(turned_back(MADE, ones), others), turned_back(MADE, ones + others))

    def test_same_again_and_nothing_changed(self):
        before = copy.deepcopy(MADE)
        self.assertEqual(turned_back(MADE, ("n",)), turned_back(MADE, ("n",)))
        self.assertEqual(MADE, before)

    def test_by_chance(self):
        many = 0
        for number in range(40):
            one = chance.late_program(number)
            for way in WAYS:
                shapes = made(one, way)
                for name in reckoned.all_kinds(one):
                    back = turned_back(shapes, (name,))
                    self.assertEqual(back, tuple(
                        (at, PLAIN, ()) if name in names else (at, form, names) for at, form, names in shapes
                    ))
                    many += back != shapes
                    if name not in one[1]:
                        self.assertEqual(back, shapes)
        self.assertGreater(many, 100)


class StraightCallsTest(unittest.TestCase):
    def test_of_a_made(self):
        self.assertEqual(straight_calls(MADE), (1, 7, 12))
        self.assertEqual(straight_calls(()), ())
        self.assertEqual(straight_calls(MADE[1:3]), ())

    def test_of_one_turned_back(self):
        self.assertEqual(straight_calls(turned_back(MADE, ("n",))), (7, 12))
        self.assertEqual(straight_calls(turned_back(MADE, ("m", "p"))), (7,))
        self.assertEqual(straight_calls(turned_back(MADE, ("o",))), (1, 7, 12))

    def test_of_a_program(self):
        kinds = (kind("a", None, BE), kind("b", "a", BE), kind("n", "a", BE))
        rows = (("make", "x", "a"), call("x", "a"), ("make", "y", "a"), ("make", "y", "b"), call("y", "a"), call("y", "b"), ("make", "x", "n"))
        shapes = made(program(kinds, ("n",), rows), "flow")
        self.assertEqual(straight_calls(shapes), (1, 5))
        self.assertEqual(straight_calls(turned_back(shapes, ("n",))), (5,))

    def test_same_again_and_nothing_changed(self):
        before = copy.deepcopy(MADE)
        self.assertEqual(straight_calls(MADE), straight_calls(MADE))
        self.assertEqual(MADE, before)


class SavedTest(unittest.TestCase):
    # Asked for be: of f one, of b two, of c three, of d four; n is late.
    KINDS = (
        kind("a", None, BE), kind("b", "a"), kind("c", "b"), kind("d", "c"), kind("f", "a", BE), kind("n", "d", BE), kind("o", None),
    )
    ROWS = (
        ("make", "x", "d"), ("make", "y", "d"), ("make", "y", "f"), ("make", "y", "c"), ("make", "z", "c"),
        call("x", "a"), call("y", "a"), call("z", "a"),
    )

    def one(self, *rows):
        return program(self.KINDS, ("n", "o"), self.ROWS + rows)

    def saved(self, one, choices=(), most=1000, back=()):
        """By what flows; and it is found that the made run's looks and it are the plain run's."""
        shapes = turned_back(made(one, "flow"), back)
        log, looks, end = plain_run(one, choices, most)
        found = saved(one, shapes, log)
        self.assertEqual(made_run(one, shapes, choices, most)[1] + found, looks)
        return found

    def test_of_the_plain_run_s_log(self):
        # Straight saves four, the one that asks one of three, straight three.
        self.assertEqual(made(self.one(), "flow"), (
            (5, ("straight", "a"), ()), (6, ("asks", (("f", "f"), ("c", "a"), ("d", "a"))), ()), (7, ("straight", "a"), ()),
        ))
        self.assertEqual(self.saved(self.one()), 4 + 1 + 3)

    def test_of_a_part_of_it(self):
        one = self.one()
        shapes, log = made(one, "flow"), plain_run(one, (), 1000)[0]
        self.assertEqual([saved(one, shapes, log[:many]) for many in range(4)], [0, 4, 5, 8])
        self.assertEqual([self.saved(one, (), most) for most in range(5, 9)], [0, 4, 5, 8])

    def test_of_no_log(self):
        self.assertEqual(saved(self.one(), made(self.one(), "flow"), ()), 0)
        self.assertEqual(saved(program(), (), ()), 0)

    def test_of_a_log_without_calls(self):
        one = program(self.KINDS, ("n", "o"), (("say", "hm"), ("bring", "n"), ("say", "hm")))
        self.assertEqual(self.saved(one), 0)

    def test_plain_calls_save_nothing(self):
        kinds = (kind("a", None, BE), kind("b", "a", BE), kind("c", "a", BE), kind("d", "c"))
        rows = (("make", "x", "a"), ("make", "x", "b"), ("make", "x", "c"), ("make", "x", "d"), call("x", "a"))
        self.assertEqual(self.saved(program(kinds, (), rows)), 0)

    def test_asks_by_the_place(self):
        for names, told in ((("d", "f", "c", "b"), 0), (("b", "f", "c", "d"), 1), (("b", "f", "d", "c"), 0), (("c", "d", "f"), 0)):
            rows = tuple(("make", "x", name) for name in names) + (call("x", "a"),)
            self.assertEqual(self.saved(program(self.KINDS, ("n", "o"), rows)), told, names)

    def test_a_kind_that_comes_at_the_beginning(self):
        one = self.one(("make", "z", "n"))
        self.assertEqual(made(one, "flow")[2], (7, ("straight", "a"), ("n",)))
        self.assertEqual(self.saved(one), 8)
        early = program(self.KINDS, ("n", "o"), (("bring", "n"),) + one[2])
        self.assertEqual(self.saved(early), 5)

    def test_between_calls(self):
        again = ("again", (call("x", "a"), ("bring", "n")))
        one = program(self.KINDS, ("n", "o"), (("make", "x", "d"), again, ("make", "x", "n")))
        self.assertEqual([self.saved(one, (many,)) for many in range(4)], [0, 4, 4, 4])

    def test_at_the_end(self):
        self.assertEqual(self.saved(self.one(("bring", "n"), ("make", "z", "n"))), 8)

    def test_a_kind_that_is_not_named(self):
        one = program(self.KINDS, ("n", "o"), (("bring", "o"),) + self.ROWS + (("make", "z", "n"),))
        self.assertEqual(self.saved(one), 8)

    def test_of_a_made_turned_back(self):
        one = self.one(("make", "z", "n"))
        self.assertEqual(self.saved(one, back=("n",)), 5)
        self.assertEqual(self.saved(one, back=("o",)), 8)
        self.assertEqual(self.saved(one, back=("n", "o")), 5)

    def test_by_each_way_as_reckoned_in_another_manner(self):
        many = {way: 0 for way in WAYS}
        for number in range(40):
            for one in (RICH, chance.program(number), chance.late_program(number)):
                for choices, most in [((2,), 200), ((2, 1), 200)] + chance.runs(number, 2):
                    log, looks, end = plain_run(one, choices, most)
                    for way in WAYS:
                        shapes = made(one, way)
                        for back in ((), one[1][:1]):
                            turned = turned_back(shapes, back)
                            found = saved(one, turned, log)
                            self.assertEqual(found, looks - remade.looks(one, turned, log))
                            self.assertEqual(found, looks - made_run(one, turned, choices, most)[1])
                            self.assertGreaterEqual(found, 0)
                            many[way] += found
        self.assertGreater(min(many.values()), 100)

    def test_same_again_and_nothing_changed(self):
        one = self.one()
        shapes, log = made(one, "flow"), plain_run(one, (), 1000)[0]
        before = copy.deepcopy((one, shapes, log))
        self.assertEqual(saved(one, shapes, log), saved(one, shapes, log))
        self.assertEqual((one, shapes, log), before)


if __name__ == "__main__":
    unittest.main()
