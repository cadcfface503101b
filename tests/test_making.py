"""Making: which calls are straight, ask or are plain, and which late kinds their papers name."""

import copy
import unittest

import chance
import reckoned
import remade
from samples import RICH, deed, kind, program
from surecall.making import call_paper, made
from surecall.papers import paper, told
from surecall.programs import is_program
from why_cases import call

WAYS = ("tree", "made", "flow", "apart")
PLAIN = ("plain",)
BE = (deed("be"),)


def makes(variable, *names):
    return tuple(("make", variable, name) for name in names)


class Made(unittest.TestCase):
    def told(self, way, kinds, rows, late=()):
        one = program(kinds, late, rows)
        self.assertIs(is_program(one), True)
        return made(one, way)

    def last(self, way, kinds, rows, late=()):
        """Form and names of the last call of main, the only one of its number."""
        found = {number: (form, names) for number, form, names in self.told(way, kinds, rows, late)}
        return found[len(rows) - 1]


class StraightTest(Made):
    KINDS = (kind("a", None, BE), kind("b", "a"), kind("c", "b", BE), kind("d", "c"), kind("e", "c"))

    def test_by_one_kind(self):
        for name, answer in (("a", "a"), ("b", "a"), ("c", "c"), ("d", "c")):
            rows = makes("x", name) + (call("x", "a"),)
            for way in WAYS[1:]:
                self.assertEqual(self.told(way, self.KINDS, rows), ((1, ("straight", answer), ()),))

    def test_by_several_with_one_answer(self):
        for names, answer in ((("a", "b"), "a"), (("c", "d", "e"), "c"), (("d", "e"), "c")):
            rows = makes("x", *names) + (call("x", "a"),)
            for way in WAYS[1:]:
                self.assertEqual(self.last(way, self.KINDS, rows), (("straight", answer), ()))

    def test_by_the_tree(self):
        self.assertEqual(self.last("tree", self.KINDS, (call("x", "c"),)), (("straight", "c"), ()))
        self.assertEqual(self.last("tree", self.KINDS, (call("x", "d"),)), (("straight", "c"), ()))
        self.assertEqual(self.last("tree", self.KINDS[:2], (call("x", "a"),)), (("straight", "a"), ()))

    def test_a_kind_that_is_not_there_at_first_is_not_among_them(self):
        rows = makes("x", "a") + (("bring", "c"),) + makes("y", "c") + (call("x", "a"),)
        for way in ("flow", "apart"):
            self.assertEqual(self.last(way, self.KINDS, rows, ("c", "d", "e")), (("straight", "a"), ()))

    def test_by_each_way_as_it_tells(self):
        kinds = (kind("a", None, (deed("be"), deed("same", ("p",), (), "p"))),
                 kind("b", "a", BE), kind("c", "a", BE), kind("d", "a", BE))
        rows = (
            ("make", "w", "b"), ("make", "x", "c"), call("x", "a", "same", ("x",), "z"), call("w", "a", "same", ("w",)),
            call("z", "a"),
        )
        self.assertEqual(self.last("apart", kinds, rows), (("straight", "c"), ()))
        self.assertEqual(self.last("flow", kinds, rows), (("asks", (("b", "b"), ("c", "c"))), ()))
        self.assertEqual(self.last("made", kinds, rows), (("asks", (("b", "b"), ("c", "c"))), ()))
        self.assertEqual(self.last("tree", kinds, rows), (PLAIN, ()))


class PlainTest(Made):
    def test_nothing_comes_to_it(self):
        kinds = (kind("a", None, (deed("be"), deed("do", (), (call("own", "a"),)))), kind("b", "a"))
        rows = makes("x", "a") + (call("y", "a"),)
        for way in ("flow", "apart"):
            self.assertEqual(self.told(way, kinds, rows), ((1, PLAIN, ()), (2, PLAIN, ())))
        self.assertEqual(self.told("made", kinds, rows), ((1, ("straight", "a"), ()), (2, PLAIN, ())))
        self.assertEqual(self.told("tree", kinds, rows), ((1, ("straight", "a"), ()), (2, ("straight", "a"), ())))

    def test_by_the_tree_in_a_body_that_is_not_there(self):
        kinds = (kind("a", None, BE), kind("b", None, (deed("do", (), (call("x", "a"),)),)))
        self.assertEqual(self.told("tree", kinds, (), ("b",)), ((0, PLAIN, ()),))
        self.assertEqual(self.told("tree", kinds, ()), ((0, ("straight", "a"), ()),))

    def test_no_kind_there(self):
        kinds = (kind("a", None, BE),)
        for way in WAYS:
            self.assertEqual(self.told(way, kinds, (call("x", "a"),), ("a",)), ((0, PLAIN, ()),))

    def test_it_would_be_dearer_for_one_kind(self):
        # Three that have the deed themselves: the second and the third would cost two.
        kinds = (kind("a", None, BE), kind("b", "a", BE), kind("c", "a", BE))
        rows = makes("x", "a", "b", "c") + (call("x", "a"),)
        for way in WAYS:
            self.assertEqual(self.last(way, kinds, rows), (PLAIN, ()))

    def test_it_names_none(self):
        kinds = (kind("a", None, BE), kind("b", "a", BE), kind("c", "a", BE), kind("d", "a", BE), kind("e", "d"))
        rows = makes("x", "a", "b", "c", "d", "e") + (call("x", "a"),)
        for way in WAYS:
            self.assertEqual(self.last(way, kinds, rows, ("d", "e")), (PLAIN, ()))

    def test_no_calls(self):
        for way in WAYS:
            self.assertEqual(made(program(), way), ())


class AsksTest(Made):
    # Asked for be: of a and f one, of b two, of c three, of d four, of e one.
    KINDS = (
        kind("a", None, BE), kind("b", "a"), kind("c", "b"), kind("d", "c"), kind("e", "d", BE), kind("f", "a", BE),
        kind("g", "f"), kind("h", "f"),
    )

    def asking(self, *names):
        rows = makes("x", *names) + (call("x", "a"),)
        found = {self.last(way, self.KINDS, rows) for way in WAYS[1:]}
        self.assertEqual(len(found), 1)
        form, named = found.pop()
        self.assertEqual(named, ())
        return form

    def test_two_are_never_dearer(self):
        self.assertEqual(self.asking("a", "e"), ("asks", (("a", "a"), ("e", "e"))))
        self.assertEqual(self.asking("e", "f"), ("asks", (("e", "e"), ("f", "f"))))
        self.assertEqual(self.asking("f", "a"), ("asks", (("a", "a"), ("f", "f"))))

    def test_in_the_order_of_asked(self):
        self.assertEqual(self.asking("d", "e"), ("asks", (("e", "e"), ("d", "a"))))
        self.assertEqual(self.asking("b", "c", "e"), ("asks", (("e", "e"), ("b", "a"), ("c", "a"))))
        self.assertEqual(self.asking("b", "c", "d", "f"), ("asks", (("f", "f"), ("b", "a"), ("c", "a"), ("d", "a"))))

    def test_alike_ones_by_names(self):
        self.assertEqual(self.asking("g", "b", "h"), ("asks", (("b", "a"), ("g", "f"), ("h", "f"))))
        self.assertEqual(self.asking("h", "b", "a"), ("asks", (("a", "a"), ("b", "a"), ("h", "f"))))

    def test_the_last_one_costs_as_much_as_the_one_ahead(self):
        # By their places three would be dearer for h, which is asked for as two.
        self.assertEqual(self.asking("b", "g", "h"), ("asks", (("b", "a"), ("g", "f"), ("h", "f"))))
        self.assertEqual(self.asking("e", "b", "g"), ("asks", (("e", "e"), ("b", "a"), ("g", "f"))))
        self.assertEqual(self.asking("b", "c", "d", "g"), ("asks", (("b", "a"), ("g", "f"), ("c", "a"), ("d", "a"))))
        # Here the one ahead of the last costs three.
        self.assertEqual(self.asking("b", "g", "h", "d"), PLAIN)
        self.assertEqual(self.asking("b", "g", "h", "c"), PLAIN)

    def test_one_dearer_is_enough(self):
        self.assertEqual(self.asking("a", "e", "b"), PLAIN)
        self.assertEqual(self.asking("a", "f", "c"), PLAIN)
        self.assertEqual(self.asking("a", "b", "g", "d"), PLAIN)
        self.assertEqual(self.asking("a", "b", "c", "d", "g"), PLAIN)
        self.assertEqual(self.asking("b", "c", "d", "f"), ("asks", (("f", "f"), ("b", "a"), ("c", "a"), ("d", "a"))))

    def test_by_the_tree(self):
        kinds = (kind("a", None, BE), kind("b", "a"), kind("c", "b"), kind("d", "c", BE))
        self.assertEqual(self.last("tree", kinds, (call("x", "b"),)), (("asks", (("d", "d"), ("b", "a"), ("c", "a"))), ()))
        self.assertEqual(self.last("tree", kinds, (call("x", "a"),)), (PLAIN, ()))


class NamesTest(Made):
    KINDS = (
        kind("a", None, BE), kind("b", "a"), kind("m", "a"), kind("n", "m", BE), kind("o", "n"), kind("p", None, BE),
    )
    LATE = ("m", "n", "o", "p")

    def test_one_that_changes_nothing_is_not_named(self):
        rows = (("bring", "m"),) + makes("x", "a", "m") + makes("y", "n") + (call("x", "a"),)
        for way in ("flow", "apart"):
            self.assertEqual(self.last(way, self.KINDS, rows, self.LATE), (("straight", "a"), ()))

    def test_one_that_brings_another_answer_to_a_straight_call(self):
        rows = makes("x", "a", "n") + (call("x", "a"),)
        for way in WAYS:
            self.assertEqual(self.last(way, self.KINDS, rows, self.LATE), (("straight", "a"), ("n", "o")))

    def test_one_with_the_same_answer_is_kept_by_a_straight_call(self):
        rows = makes("x", "a", "m") + (call("x", "a"),)
        self.assertEqual(self.last("made", self.KINDS, rows, self.LATE), (("straight", "a"), ()))
        self.assertEqual(self.last("tree", self.KINDS, rows, self.LATE), (("straight", "a"), ("n", "o")))

    def test_one_that_brings_more_kinds_to_one_that_asks(self):
        kinds = (kind("a", None, BE), kind("b", "a", BE), kind("m", "b", BE), kind("n", "a"), kind("o", None))
        rows = makes("x", "a", "b", "m", "n") + makes("y", "o") + (call("x", "a"),)
        asks = ("asks", (("a", "a"), ("b", "b")))
        for way in WAYS:
            # The kind n has the same answer as a has, and is named all the same.
            self.assertEqual(self.last(way, kinds, rows, ("m", "n", "o")), (asks, ("m", "n")))
        rows = makes("x", "a", "b", "n") + (call("x", "a"),)
        for way in WAYS[1:]:
            self.assertEqual(self.last(way, kinds, rows, ("m", "n", "o")), (asks, ("n",)))

    def test_one_whose_elder_is_named(self):
        kinds = (kind("a", None, BE), kind("m", "a", BE), kind("n", "m"), kind("o", "n"), kind("p", "a"))
        rows = makes("x", "a", "m") + (call("x", "a"),)
        for way in WAYS:
            self.assertEqual(self.last(way, kinds, rows, ("m", "n", "o", "p")), (("straight", "a"), ("m", "n", "o")))

    def test_kept_ones_count_for_those_behind(self):
        # The kinds m and n flow to x only together: the one kept first stays, the other one is named.
        inner = (("make", "r", "n"),)
        kinds = (kind("a", None, BE), kind("m", "a", (deed("go", (), inner, "r"),)), kind("n", "a", BE))
        rows = makes("x", "a") + makes("y", "m") + (call("y", "m", "go", (), "x"), call("x", "a"))
        for way in ("flow", "apart"):
            self.assertEqual(self.last(way, kinds, rows, ("m", "n")), (("straight", "a"), ("n",)))
            self.assertEqual(self.last(way, (kinds[0], kinds[2], kinds[1]), rows, ("m", "n")), (("straight", "a"), ("m",)))

    def test_in_the_order_of_kinds_not_of_names(self):
        # Of two that would bring unlike answers together neither alone does any harm.
        inner = (("make", "r", "z"),)
        kinds = (kind("a", None, BE), kind("z", "a", BE), kind("c", None, (deed("go", (), inner, "r"),)), kind("d", None))
        rows = makes("x", "a") + makes("y", "c") + (call("y", "c", "go", (), "x"), call("x", "a"))
        for way in ("flow", "apart"):
            self.assertEqual(self.last(way, kinds, rows, ("c", "d", "z")), (("straight", "a"), ("c",)))
            self.assertEqual(self.last(way, kinds[:1] + kinds[2:] + kinds[1:2], rows, ("c", "d", "z")), (("straight", "a"), ("z",)))

    def test_kept_elders_let_those_under_them_be_kept(self):
        kinds = (kind("a", None, BE), kind("m", "a"), kind("n", "m"), kind("o", "n"))
        rows = makes("x", "a", "m", "n", "o") + (call("x", "a"),)
        for way in WAYS:
            self.assertEqual(self.last(way, kinds, rows, ("m", "n", "o")), (("straight", "a"), ()))

    def test_a_late_one_without_an_elder(self):
        rows = makes("x", "a", "p") + (call("x", "a"),)
        self.assertEqual(self.last("flow", self.KINDS, rows, self.LATE), (("straight", "a"), ()))
        kinds = (kind("a", None, BE), kind("m", None, (deed("go", (), (("make", "r", "b"),), "r"),)), kind("b", "a", BE))
        rows = makes("x", "a") + makes("y", "m") + (call("y", "m", "go", (), "x"), call("x", "a"))
        self.assertEqual(self.last("flow", kinds, rows, ("m",)), (("straight", "a"), ("m",)))

    def test_names_rise(self):
        kinds = (kind("a", None, BE), kind("z", "a", BE), kind("y", "a", BE), kind("x", "a", BE), kind("w", "x"))
        rows = makes("v", "a", "z", "y", "x", "w") + (call("v", "a"),)
        for way in WAYS:
            self.assertEqual(self.last(way, kinds, rows, ("w", "x", "y", "z")), (("straight", "a"), ("w", "x", "y", "z")))

    def test_each_call_for_itself(self):
        kinds = (kind("a", None, BE), kind("b", "a", BE), kind("m", "a", BE), kind("n", "b", BE))
        rows = makes("x", "a", "m") + makes("y", "b", "n") + makes("z", "a", "b") + (call("x", "a"), call("y", "a"), call("z", "a"))
        for way in ("flow", "apart"):
            self.assertEqual(self.told(way, kinds, rows, ("m", "n")), (
                (6, ("straight", "a"), ("m",)), (7, ("straight", "b"), ("n",)), (8, ("asks", (("a", "a"), ("b", "b"))), ()),
            ))


class CallPaperTest(Made):
    def test_all_kinds_there_but_those_named(self):
        kinds = (kind("a", None, BE), kind("b", "a", BE), kind("m", "a", BE), kind("n", "b", BE))
        rows = makes("x", "a", "m") + makes("y", "b", "n") + (call("x", "a"), call("y", "a"), call("z", "a"))
        one = program(kinds, ("m", "n"), rows)
        self.assertEqual(call_paper(one, "flow", 4), paper(one, "flow", ("a", "b", "n")))
        self.assertEqual(call_paper(one, "flow", 5), paper(one, "flow", ("a", "b", "m")))
        self.assertEqual(call_paper(one, "flow", 6), paper(one, "flow", ("a", "b", "m", "n")))
        self.assertEqual(call_paper(one, "apart", 4), paper(one, "apart", ("a", "b", "n")))
        self.assertEqual(call_paper(one, "tree", 4), ())
        self.assertEqual(call_paper(one, "made", 4)[1], ("a", "b"))

    def test_by_chance(self):
        for number in range(20):
            one = chance.late_program(number)
            for way in WAYS:
                for at, form, names in made(one, way):
                    there = tuple(name for name in reckoned.all_kinds(one) if name not in names)
                    self.assertEqual(call_paper(one, way, at), paper(one, way, there))


class ChanceTest(Made):
    def test_as_reckoned_in_another_manner(self):
        found = set()
        for one in [RICH] + [make(number) for number in range(40) for make in (chance.program, chance.late_program)]:
            for way in WAYS:
                told_now = made(one, way)
                self.assertEqual(told_now, remade.made(one, way), (one, way))
                found.update((way, form[0], len(names) > 0) for number, form, names in told_now)
        for way in WAYS:
            for form in ("straight", "asks"):
                self.assertIn((way, form, True), found)
                self.assertIn((way, form, False), found)
            self.assertIn((way, "plain", False), found)
            self.assertNotIn((way, "plain", True), found)

    def test_no_kind_is_named_idly(self):
        many = 0
        for number in range(60):
            one = chance.late_program(number)
            for way in WAYS:
                for at, form, names in made(one, way):
                    for name in names:
                        there = set(reckoned.all_kinds(one)) - set(names) | set(reckoned.line(one, name))
                        kinds = dict(told(one, way, tuple(sorted(there))))[at]
                        word = reckoned.rows_by_number(one)[at][1][4]
                        if form[0] == "straight":
                            self.assertNotEqual({reckoned.answer(one, kind, word) for kind in kinds}, {form[1]})
                        else:
                            self.assertLess({kind for kind, answer in form[1]}, set(kinds))
                        many += 1
        self.assertGreater(many, 100)

    def test_same_again_and_nothing_changed(self):
        for one in (RICH, chance.late_program(3)):
            before = copy.deepcopy(one)
            for way in WAYS:
                self.assertEqual(made(one, way), made(one, way))
                for number, form, names in made(one, way):
                    self.assertEqual(call_paper(one, way, number), call_paper(one, way, number))
            self.assertEqual(one, before)


if __name__ == "__main__":
    unittest.main()
