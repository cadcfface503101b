"""is_program of anything: by itself, and in the place of each part of a program."""

import copy
import unittest

from samples import RICH, SAY, in_deed, in_main, kind, program
from surecall.programs import is_program
from things import nest, nested_things, part_at, paths, plain_things, replaced, strange_tuples


def may_be_none(path):
    """Whether an elder or a gives stands at that place of a program."""
    return path[:1] == (0,) and (len(path) == 3 and path[2] == 1 or len(path) == 5 and path[4] == 3)


class AnythingTest(unittest.TestCase):
    def told(self, thing):
        answer = is_program(thing)
        self.assertIsInstance(answer, bool)
        return answer

    def test_by_itself(self):
        for thing in plain_things() + nested_things() + strange_tuples() + [None, (), "a", "own"]:
            self.assertIs(is_program(thing), False)

    def test_in_the_place_of_each_part(self):
        junk = plain_things() + nested_things() + strange_tuples()
        for path in paths(RICH):
            for thing in junk:
                self.assertIs(self.told(replaced(RICH, path, thing)), False, (path,))

    def test_none_in_the_place_of_each_part(self):
        for path in paths(RICH):
            answer = self.told(replaced(RICH, path, None))
            if not may_be_none(path):
                self.assertIs(answer, False, path)

    def test_none_as_elder_and_as_gives(self):
        gives = [path for path in paths(RICH) if may_be_none(path) and len(path) == 5]
        self.assertEqual(len(gives), 5)
        for path in gives:
            self.assertIs(is_program(replaced(RICH, path, None)), True, path)
        # The kind new is called for what it has itself.
        self.assertIs(is_program(replaced(RICH, (0, 5, 1), None)), True)
        # The kind newer is called for what its elders alone have.
        self.assertIs(is_program(replaced(RICH, (0, 6, 1), None)), False)

    def test_nothing_in_the_place_of_each_part(self):
        whole = {(0, 0, 2, 1, 2), (0, 0, 2, 1, 1), (0, 2, 2), (0, 3, 2), (0, 6, 2), (2,), (0, 0, 2, 0, 2)}
        for path in paths(RICH):
            answer = self.told(replaced(RICH, path, ()))
            if path in whole:
                self.assertIs(answer, True, path)
            if not isinstance(part_at(RICH, path), tuple):
                self.assertIs(answer, False, path)
            if isinstance(part_at(RICH, path), tuple) and part_at(RICH, path)[:1] == SAY[:1]:
                self.assertIs(answer, False, path)

    def test_a_list_is_no_tuple(self):
        for path in paths(RICH):
            part = part_at(RICH, path)
            if isinstance(part, tuple):
                self.assertIs(is_program(replaced(RICH, path, list(part))), False, path)

    def test_bytes_and_texts_are_no_words_or_tuples_of_words(self):
        for path in paths(RICH):
            part = part_at(RICH, path)
            if isinstance(part, str):
                for thing in (part.encode(), [part], (part,), {part}, {part: part}, list(part), tuple(part)):
                    self.assertIs(is_program(replaced(RICH, path, thing)), False, path)
            elif part and all(isinstance(word, str) for word in part):
                self.assertIs(is_program(replaced(RICH, path, "".join(part))), False, path)

    def test_sixty_deep(self):
        for wrap in (lambda thing: ("again", (thing,)), lambda thing: ("either", (thing,), ())):
            self.assertIs(is_program(in_main(nest(wrap, SAY, 29))), False)
            self.assertIs(is_program(in_deed(nest(wrap, SAY, 28))), False)
        for thing in nested_things():
            self.assertIs(is_program(program(rows=thing)), False)
            self.assertIs(is_program(program((kind("a"), thing))), False)

    def test_rows_that_hold_the_same_ones_over_and_over(self):
        rows = (SAY,) * 20
        for deep in range(4):
            rows = (("either", rows, rows),) * 20
        self.assertIs(is_program(in_main(*rows)), False)

    def test_same_again_and_nothing_changed(self):
        for build in (lambda: RICH, lambda: [["a"], {"a": [1]}], lambda: ([["a", None, []]], [], [SAY])):
            thing, before = build(), copy.deepcopy(build())
            self.assertIs(is_program(thing), is_program(thing))
            self.assertEqual(thing, before)


if __name__ == "__main__":
    unittest.main()
