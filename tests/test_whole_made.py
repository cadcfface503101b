"""The whole promise, of papers taken and of what is made, over several programs and runs of them."""

import random
import unittest

import chance
import reckoned
import remade
from more_papers import with_more
from samples import RICH
from surecall.looks import shows, told_by
from surecall.making import made
from surecall.papers import paper, told
from surecall.plainrun import plain_run
from test_whole import dones, fewer, some_theres

WAYS = ("tree", "made", "flow", "apart")
PROGRAMS = [RICH] + [chance.program(number) for number in range(40)] + [chance.late_program(number) for number in range(60)]
MADE = {(at, way): made(one, way) for at, one in enumerate(PROGRAMS) for way in WAYS}


def runs():
    """Each program, by its number, with some choices and how many rows may be done."""
    for at, one in enumerate(PROGRAMS):
        for choices, most in [((2,), 300), ((1,) * 20, 300), ((3, 1, 0, 1), 300)] + chance.runs(at, 2):
            yield at, one, choices, most


class PapersTest(unittest.TestCase):
    def papers(self, luck, one, way, there):
        """Papers that are taken: the least one, one with more kinds there, and some with more in them."""
        least = paper(one, way, there)
        yield least
        yield paper(one, way, tuple(reckoned.all_kinds(one)))
        for time in range(2):
            yield reckoned.closing(one, way, there, with_more(luck, one, way, least) if least else least)

    def test_what_stands_at_a_call_done_is_told_by_each_paper_taken(self):
        many = 0
        for at, one, choices, most in runs():
            luck = random.Random(at)
            found = sorted(set(dones(one, plain_run(one, choices, most)[0])))
            for number, name, there in found[:4]:
                for way in WAYS:
                    for thing in self.papers(luck, one, way, there):
                        self.assertIs(shows(one, way, there, thing), True)
                        self.assertIn(name, dict(told_by(one, way, there, thing))[number])
                        many += 1
        self.assertGreater(many, 5000)

    def test_no_paper_that_is_taken_tells_fewer(self):
        for at, one in enumerate(PROGRAMS):
            luck = random.Random(at)
            for there in some_theres(one)[:3]:
                for way in WAYS:
                    for thing in self.papers(luck, one, way, there):
                        self.assertTrue(fewer(told(one, way, there), told_by(one, way, there, thing)))


class MadeTest(unittest.TestCase):
    def test_what_calls_come_to_until_a_kind_comes_that_is_named(self):
        many = {(way, form): 0 for way in WAYS for form in ("straight", "asks")}
        for at, one, choices, most in runs():
            log = plain_run(one, choices, most)[0]
            for way in WAYS:
                calls, came = {number: entry for number, *entry in MADE[at, way]}, set()
                for entry in log:
                    if entry[0] == "came":
                        came.add(entry[1])
                    elif entry[0] == "did":
                        word, number, name, answer = entry
                        form, names = calls[number]
                        if form[0] != "plain" and not came & set(names):
                            self.assertIn((name, answer), [(name, form[1])] if form[0] == "straight" else form[1])
                            many[way, form[0]] += 1
        self.assertGreater(min(many.values()), 30)

    def test_some_would_come_to_another_behind_a_coming(self):
        many = 0
        for at, one, choices, most in runs():
            for way in WAYS:
                answers = {number: form[1] for number, form, names in MADE[at, way] if form[0] == "straight"}
                dids = [entry for entry in plain_run(one, choices, most)[0] if entry[0] == "did"]
                many += sum(answers.get(number, answer) != answer for word, number, name, answer in dids)
        self.assertGreater(many, 20)

    def test_where_a_call_is_plain_though_several_kinds_are_told_none_could_be_asked(self):
        many = 0
        for at, one in enumerate(PROGRAMS):
            for way in WAYS:
                kinds = dict(told(one, way, reckoned.there_at_first(one)))
                for number, form, names in MADE[at, way]:
                    if form == ("plain",) and len(kinds[number]) > 1:
                        word = reckoned.rows_by_number(one)[number][1][4]
                        self.assertFalse(remade.can_be_asked(one, kinds[number], word))
                        many += 1
        self.assertGreater(many, 100)


if __name__ == "__main__":
    unittest.main()
