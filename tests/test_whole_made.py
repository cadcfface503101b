"""The whole promise, of papers taken and of what is made, over several programs and runs of them."""

import random
import unittest

import chance
import reckoned
import remade
from more_papers import with_more
from samples import RICH
from surecall.answers import answers
from surecall.looks import shows, told_by
from surecall.maderun import made_run
from surecall.making import made
from surecall.papers import paper, told
from surecall.plainrun import plain_run
from surecall.savings import saved, turned_back
from surecall.texts import read_program, show_program
from test_whole import dones, fewer, some_theres

WAYS = ("tree", "made", "flow", "apart")
PROGRAMS = [RICH] + [chance.program(number) for number in range(40)] + [chance.late_program(number) for number in range(60)]
MADE = {(at, way): made(one, way) for at, one in enumerate(PROGRAMS) for way in WAYS}


def runs():
    """Each program, by its number, with some choices and how many rows may be done."""
    for at, one in enumerate(PROGRAMS):
        for choices, most in [((2,), 300), ((1,) * 20, 300), ((3, 1, 0, 1), 300)] + chance.runs(at, 2):
            yield at, one, choices, most


class PapersTest(unittest.TestCase):
    def papers(self, luck, one, way, there):
        """Papers that are taken: the least one, one with more kinds there, and some with more in them."""
        least = paper(one, way, there)
        yield least
        yield paper(one, way, tuple(reckoned.all_kinds(one)))
        for time in range(2):
            yield reckoned.closing(one, way, there, with_more(luck, one, way, least) if least else least)

    def test_what_stands_at_a_call_done_is_told_by_each_paper_taken(self):
        many = 0
        for at, one, choices, most in runs():
            luck = random.Random(at)
            found = sorted(set(dones(one, plain_run(one, choices, most)[0])))
            for number, name, there in found[:4]:
                for way in WAYS:
                    for thing in self.papers(luck, one, way, there):
                        self.assertIs(shows(one, way, there, thing), True)
                        self.assertIn(name, dict(told_by(one, way, there, thing))[number])
                        many += 1
        self.assertGreater(many, 5000)

    def test_no_paper_that_is_taken_tells_fewer(self):
        for at, one in enumerate(PROGRAMS):
            luck = random.Random(at)
            for there in some_theres(one)[:3]:
                for way in WAYS:
                    for thing in self.papers(luck, one, way, there):
                        self.assertTrue(fewer(told(one, way, there), told_by(one, way, there, thing)))


class MadeTest(unittest.TestCase):
    def test_what_calls_come_to_until_a_kind_comes_that_is_named(self):
        many = {(way, form): 0 for way in WAYS for form in ("straight", "asks")}
        for at, one, choices, most in runs():
            log = plain_run(one, choices, most)[0]
            for way in WAYS:
                calls, came = {number: entry for number, *entry in MADE[at, way]}, set()
                for entry in log:
                    if entry[0] == "came":
                        came.add(entry[1])
                    elif entry[0] == "did":
                        word, number, name, answer = entry
                        form, names = calls[number]
                        if form[0] != "plain" and not came & set(names):
                            self.assertIn((name, answer), [(name, form[1])] if form[0] == "straight" else form[1])
                            many[way, form[0]] += 1
        self.assertGreater(min(many.values()), 30)

    def test_some_would_come_to_another_behind_a_coming(self):
        many = 0
        for at, one, choices, most in runs():
            for way in WAYS:
                answers = {number: form[1] for number, form, names in MADE[at, way] if form[0] == "straight"}
                dids = [entry for entry in plain_run(one, choices, most)[0] if entry[0] == "did"]
                many += sum(answers.get(number, answer) != answer for word, number, name, answer in dids)
        self.assertGreater(many, 20)

    def test_where_a_call_is_plain_though_several_kinds_are_told_none_could_be_asked(self):
        many = 0
        for at, one in enumerate(PROGRAMS):
            for way in WAYS:
                kinds = dict(told(one, way, reckoned.there_at_first(one)))
                for number, form, names in MADE[at, way]:
                    if form == ("plain",) and len(kinds[number]) > 1:
                        word = reckoned.rows_by_number(one)[number][1][4]
                        self.assertFalse(remade.can_be_asked(one, kinds[number], word))
                        many += 1
        self.assertGreater(many, 100)


def costs_by_row(one, shapes, choices, most):
    """Of each row done what it costs, by runs of one row more and more."""
    looks = [made_run(one, shapes, choices, many)[1] for many in range(most + 1)]
    return [after - before for before, after in zip(looks, looks[1:])]


class MadeRunTest(unittest.TestCase):
    def test_the_same_log_and_end_with_as_many_looks_fewer_as_are_told(self):
        ends, fewer_looks = set(), {way: 0 for way in WAYS}
        for at, one, choices, most in runs():
            log, looks, end = plain_run(one, choices, most)
            for way in WAYS:
                found = made_run(one, MADE[at, way], choices, most)
                self.assertEqual((found[0], found[2]), (log, end))
                self.assertLessEqual(found[1], looks)
                self.assertEqual(looks - found[1], saved(one, MADE[at, way], log))
                ends.add((way, end[0]))
                fewer_looks[way] += looks - found[1]
        self.assertEqual(ends, {(way, end) for way in WAYS for end in ("done", "absent", "nothing", "unfit", "deep", "long")})
        self.assertGreater(min(fewer_looks.values()), 100)

    def test_ahead_of_at_and_behind_a_coming(self):
        """Row by row a call costs as plain only where it was plain, or a kind has come that it names."""
        many = {True: 0, False: 0}
        for at in range(41, len(PROGRAMS)):
            one, choices = PROGRAMS[at], (2,)
            for way in WAYS:
                shapes, came, place = MADE[at, way], (), 0
                log = plain_run(one, choices, 60)[0]
                spent = [cost for cost in costs_by_row(one, shapes, choices, 60) if cost]
                for entry in log:
                    if entry[0] == "came":
                        came += (entry[1],)
                    elif entry[0] == "did":
                        form = dict((number, form) for number, form, names in turned_back(shapes, came))[entry[1]]
                        cost = remade.cost(one, form, entry[2], reckoned.rows_by_number(one)[entry[1]][1][4])
                        if cost:
                            self.assertEqual(spent[place], cost)
                            place += 1
                        many[form == ("plain",)] += 1
                self.assertEqual(place, len(spent))
        self.assertGreater(min(many.values()), 100)

    def test_just_those_that_name_it_are_plain_behind_a_coming(self):
        for (at, way), shapes in MADE.items():
            for name in PROGRAMS[at][1]:
                for (number, form, names), (same, other, left) in zip(shapes, turned_back(shapes, (name,))):
                    self.assertEqual(number, same)
                    self.assertIs(other == ("plain",), form == ("plain",) or name in names)
                    if name not in names:
                        self.assertEqual((form, names), (other, left))


class TextsTest(unittest.TestCase):
    def test_what_is_written_is_read_as_it_was_and_answered_as_all_these_tell(self):
        for at, one in enumerate(PROGRAMS):
            text = show_program(one)
            self.assertEqual(read_program(text), one)
            for way in WAYS:
                found = answers(f"{text}\nasked\ntold {way}\nmade {way}\nrun 99 2\nsaves {way} 99 2")
                kinds = dict(told(one, way, reckoned.there_at_first(one)))
                self.assertEqual(found[0], "; ".join(f"{number}:" + (",".join(kinds[number]) or "-") for number in sorted(kinds)) or "-")
                forms = [entry.split(":")[1].split(" ")[0] for entry in found[1].split("; ") if entry != "-"]
                self.assertEqual(forms, [form[0] for number, form, names in MADE[at, way]])
                log, looks, end = plain_run(one, (2,), 99)
                self.assertTrue(found[2].startswith(end[0]))
                self.assertIn(f"; looks {looks}; said ", found[2])
                self.assertEqual(found[3], f"{looks} {looks - saved(one, MADE[at, way], log)}")


if __name__ == "__main__":
    unittest.main()
