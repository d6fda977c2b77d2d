"""Points 30 and 31, and point 2 for them: links, beside."""

import random
import unittest

from besidewords.asking import all_met, spans
from besidewords.beside import beside, links
from besidewords.questions import read_question
from tests.helper import (
    STEPS, WORDS, all_ways, chance_question, check_own, good_time, great_rows, great_texts, plain_found, plain_spans)

LEFTS = [["the", "mill"], ["by", "the"], ["race"], [], ["the", "mill", "race"]]
RIGHTS = [["die", "muehle"], ["am"], [], ["bach"], ["der", "bach"]]


def plain_links(steps):
    return [(list(range(sum(step[0] for step in steps[:at]), sum(step[0] for step in steps[:at + 1]))),
             list(range(sum(step[1] for step in steps[:at]), sum(step[1] for step in steps[:at + 1]))))
            for at in range(len(steps))]


def plain_beside(lefts, rights, steps, one, other):
    """Point 30, word for word: each span is looked at by itself."""
    def stands(left):
        return any(left in rows and any(plain_spans(other, rights[right]) for right in others)
                   for rows, others in plain_links(steps))
    return [met for met in plain_found(lefts, one) if stands(met[0])]


class Links(unittest.TestCase):
    def test_no_steps(self):
        self.assertEqual(links([]), [])

    def test_each_of_the_five_steps(self):
        for step, told in zip(STEPS, [([0], [0]), ([0], [0, 1]), ([0, 1], [0]), ([0], []), ([], [0])]):
            self.assertEqual(links([step]), [told])

    def test_a_way_with_all_five_steps(self):
        self.assertEqual(links([(1, 1), (1, 2), (2, 1), (1, 0), (0, 1)]),
                         [([0], [0]), ([1], [1, 2]), ([2, 3], [3]), ([4], []), ([], [4])])
        self.assertEqual(links([(0, 1), (1, 0), (2, 1), (1, 2), (1, 1)]),
                         [([], [0]), ([0], []), ([1, 2], [1]), ([3], [2, 3]), ([4], [4])])

    def test_one_side_alone(self):
        self.assertEqual(links([(1, 0)] * 3), [([0], []), ([1], []), ([2], [])])
        self.assertEqual(links([(0, 1)] * 3), [([], [0]), ([], [1]), ([], [2])])

    def test_all_small_ways(self):
        for many in range(5):
            for others in range(5):
                for steps in all_ways(many, others):
                    told = links(steps)
                    self.assertEqual(told, plain_links(steps))
                    self.assertEqual(sum([lefts for lefts, rights in told], []), list(range(many)))
                    self.assertEqual(sum([rights for lefts, rights in told], []), list(range(others)))

    def test_however_many_steps(self):
        with good_time(20):
            told = links([(1, 1), (0, 1), (2, 1), (1, 0)] * 50000)
        self.assertEqual(len(told), 200000)
        self.assertEqual(told[-4:], [([199996], [149997]), ([], [149998]), ([199997, 199998], [149999]),
                                     ([199999], [])])

    def test_told_lists_are_the_askers_own(self):
        for steps in ([], [(1, 1), (1, 2), (2, 1), (1, 0), (0, 1)], [(1, 0), (1, 0)]):
            check_own(self, links, steps)

    def test_no_two_told_lists_are_one(self):
        told = links([(1, 0), (0, 1), (1, 0), (1, 1), (0, 1)])
        lists = [rows for both in told for rows in both]
        self.assertEqual(len({id(rows) for rows in lists}), 10)


class Beside(unittest.TestCase):
    def check(self, lefts, rights, steps, one, other, told):
        self.assertEqual(beside(lefts, rights, steps, read_question(one), read_question(other)), told, (one, other))

    def test_ordinary(self):
        steps = [(1, 1), (1, 2), (2, 1), (0, 1), (1, 0)]
        self.check(LEFTS, RIGHTS, steps, "the", "muehle", [(0, 0, 1)])
        self.check(LEFTS, RIGHTS, steps, "the", "am", [(1, 1, 2)])
        self.check(LEFTS, RIGHTS, steps, "the | race", "bach", [(2, 0, 1)])
        self.check(LEFTS, RIGHTS, steps, "?", "muehle | bach", [(0, 0, 1), (0, 1, 2), (2, 0, 1)])
        self.check(LEFTS, RIGHTS, steps, "cat", "?", [])
        self.check(LEFTS, RIGHTS, steps, "the", "katze", [])

    def test_a_step_with_one_right_row(self):
        self.check([["a"]], [["x"]], [(1, 1)], "a", "x", [(0, 0, 1)])
        self.check([["a"]], [["x"]], [(1, 1)], "a", "y", [])
        self.check([["a"], ["b", "a"]], [["x"]], [(2, 1)], "a", "x", [(0, 0, 1), (1, 1, 2)])
        self.check([["b"], ["b", "a"]], [["x"]], [(2, 1)], "a", "x", [(1, 1, 2)])

    def test_a_step_with_two_right_rows(self):
        for rights in ([["x"], ["y"]], [["y"], ["x"]], [["x"], ["x"]], [[], ["x"]], [["x"], []]):
            self.check([["a", "b", "a"]], rights, [(1, 2)], "a", "x", [(0, 0, 1), (0, 2, 3)])
        self.check([["a"]], [["y"], ["z"]], [(1, 2)], "a", "x", [])

    def test_no_span_of_the_other_goes_over_two_right_rows(self):
        self.check([["a"]], [["x"], ["y"]], [(1, 2)], "a", "x y", [])
        self.check([["a"]], [["x", "y"], ["y"]], [(1, 2)], "a", "x y", [(0, 0, 1)])

    def test_no_span_of_the_one_goes_over_two_left_rows(self):
        self.check([["a"], ["b"]], [["x"]], [(2, 1)], "a b", "x", [])

    def test_a_step_without_right_rows(self):
        self.check([["a"]], [["x"]], [(1, 0), (0, 1)], "a", "x", [])
        self.check([["a"]], [["x"]], [(0, 1), (1, 0)], "a", "x", [])
        self.check([["a"], ["a"]], [], [(1, 0), (1, 0)], "a", "..0", [])
        self.check([["a"], ["a"]], [["x"]], [(1, 0), (1, 1)], "a", "x", [(1, 0, 1)])

    def test_a_step_without_left_rows(self):
        self.check([], [["x"], ["x"]], [(0, 1), (0, 1)], "..0", "x", [])
        self.check([["a"]], [["x"], ["y"]], [(0, 1), (1, 1)], "a", "x", [])

    def test_no_rows(self):
        self.check([], [], [], "..0", "..0", [])

    def test_the_other_meets_only_a_span_without_words(self):
        self.check([["a"]], [["x"]], [(1, 1)], "a", "..0", [(0, 0, 1)])
        self.check([["a"], ["a"]], [["x"]], [(1, 1), (1, 0)], "a", "y | ..0", [(0, 0, 1)])

    def test_a_right_row_without_words(self):
        for other in ("..0", "..3", "x | ..1", "( ..0 )"):
            self.check([["a"]], [[]], [(1, 1)], "a", other, [(0, 0, 1)])
            self.check([["a"], ["a"]], [[], ["x"]], [(1, 0), (1, 2)], "a", other, [(1, 0, 1)])
        for other in ("?", "x", "x ..3", "..0 ?"):
            self.check([["a"]], [[]], [(1, 1)], "a", other, [])

    def test_spans_of_the_one_without_words(self):
        self.check([["a"], []], [["x"]], [(2, 1)], "..0", "x", [(0, 0, 0), (0, 1, 1), (1, 0, 0)])
        self.check([["a"], []], [["x"]], [(1, 0), (1, 1)], "..1", "x", [(1, 0, 0)])

    def test_each_span_once_and_rising(self):
        self.check([["a", "a"]], [["x", "x"], ["x"]], [(1, 2)], "a | ? | a ..1", "x | ?",
                   [(0, 0, 1), (0, 0, 2), (0, 1, 2)])
        rows = [["a"]] * 12
        self.check(rows, rows, [(1, 1)] * 12, "a", "a", [(row, 0, 1) for row in range(12)])

    def test_the_two_questions_are_not_changed_for_one_another(self):
        self.check([["a", "x"]], [["x", "a", "a"]], [(1, 1)], "a", "x", [(0, 0, 1)])
        self.check([["a"]], [["x"]], [(1, 1)], "x", "a", [])

    def test_all_ways_of_small_texts(self):
        lefts, rights = [["a", "b"], [], ["b"], ["a"]], [["x"], [], ["y", "x"]]
        for one, other in (("a", "x"), ("..1", "y"), ("b | a", "..0"), ("?", "x | y x"), ("..0", "?")):
            first, second = read_question(one), read_question(other)
            for many in range(5):
                for others in range(4):
                    for steps in all_ways(many, others):
                        handed = (lefts[:many], rights[:others], steps, first, second)
                        self.assertEqual(beside(*handed), plain_beside(*handed), handed)

    def test_many_questions_by_seeded_chance(self):
        chance = random.Random(30)
        for number in range(400):
            lefts, rights = [[[chance.choice(WORDS) for at in range(chance.randrange(4))]
                              for row in range(chance.randrange(4))] for side in range(2)]
            steps = chance.choice(all_ways(len(lefts), len(rights)))
            handed = (lefts, rights, steps, chance_question(chance, 2), chance_question(chance, 2))
            self.assertEqual(beside(*handed), plain_beside(*handed), handed)

    def test_great_sizes(self):
        hundred, like, turns, lone, uneven = great_rows()
        for lefts, rights in ((hundred, uneven), (like, turns), (uneven, hundred)):
            steps = [(1, 1)] * len(lefts)
            for text in great_texts()[:4]:
                question = read_question(text)
                with good_time(20):
                    told = beside(lefts, rights, steps, question, question)
                meeting = [bool(spans(question, row)) for row in rights]
                self.assertEqual(told, [met for met in all_met(lefts, question) if meeting[met[0]]])
        with good_time(20):
            self.check(hundred, hundred, [(1, 1)] * 100, "a", "a a a", [(row, at, at + 1) for row in range(100)
                                                                       for at in range(3)])

    def test_told_lists_are_the_askers_own(self):
        steps = [(1, 1), (1, 2), (2, 1), (0, 1), (1, 0)]
        for one, other in (("the", "bach"), ("..1", "..0"), ("the ( mill | ..2 )", "( die | am )"), ("a", "b")):
            check_own(self, beside, [list(row) for row in LEFTS], [list(row) for row in RIGHTS], list(steps),
                      read_question(one), read_question(other))
        check_own(self, beside, [], [], [], read_question("a"), read_question("a"))


if __name__ == "__main__":
    unittest.main()
