"""Point 21, and point 2 for it: met_by_ends tells what all_met tells."""

import itertools
import random
import unittest

from besidewords.asking import all_met
from besidewords.ends import ends
from besidewords.finding import met_by_ends
from besidewords.questions import read_question
from tests.helper import (
    WORDS, chance_question, check_own, good_time, great_rows, great_texts, nested, plain_ends, plain_found,
    small_questions)

ROWS = [["the", "mill", "by", "the", "mill", "race"], [], ["the", "race"], ["by"]]


class MetByEnds(unittest.TestCase):
    def check(self, rows, text, told):
        self.assertEqual(met_by_ends(rows, plain_ends(rows), read_question(text)), told, text)

    def test_ordinary(self):
        self.check(ROWS, "the", [(0, 0, 1), (0, 3, 4), (2, 0, 1)])
        self.check(ROWS, "the mill", [(0, 0, 2), (0, 3, 5)])
        self.check(ROWS, "the mill race", [(0, 3, 6)])
        self.check(ROWS, "the ..2 race | by", [(0, 2, 3), (0, 3, 6), (2, 0, 2), (3, 0, 1)])
        self.check(ROWS, "m* *e", [(0, 4, 6)])
        self.check(ROWS, "( mill | by ) the", [(0, 2, 4)])

    def test_each_kind_of_part(self):
        self.check([["ab", "b"], ["a"]], "a", [(1, 0, 1)])
        self.check([["ab", "b"], ["a"]], "a*", [(0, 0, 1), (1, 0, 1)])
        self.check([["ab", "b"], ["a"]], "*b", [(0, 0, 1), (0, 1, 2)])
        self.check([["ab", "b"], ["a"]], "?", [(0, 0, 1), (0, 1, 2), (1, 0, 1)])
        self.check([["ab", "b"], ["a"]], "..1", [(0, 0, 0), (0, 0, 1), (0, 1, 1), (0, 1, 2), (0, 2, 2), (1, 0, 0),
                                                 (1, 0, 1), (1, 1, 1)])
        self.check([["ab", "b"], ["a"]], "( ab b | a )", [(0, 0, 2), (1, 0, 1)])

    def test_words_that_come_nowhere(self):
        for text in ("cat", "th", "thee", "zz", "0", "mill the", "the mill race a", "race the", "by by"):
            self.check(ROWS, text, [])

    def test_questions_that_may_meet_no_words(self):
        everywhere = [(row, at, at) for row in range(4) for at in range(len(ROWS[row]) + 1)]
        for text in ("..0", "..0 | ..0", "( ..0 ) ..0", "cat | ..0"):
            self.check(ROWS, text, everywhere)
        self.check([[], []], "..3 | a", [(0, 0, 0), (1, 0, 0)])
        self.check([[]], "a ..3", [])
        self.check([["b"]], "b ..0 | ..0", [(0, 0, 0), (0, 0, 1), (0, 1, 1)])

    def test_no_rows(self):
        for text in ("..0", "a", "?", "( ..2 | a )"):
            self.check([], text, [])

    def test_a_span_that_is_met_twice_is_told_once(self):
        self.check([["a", "b"]], "a | a* | ? | ( a | *a )", [(0, 0, 1), (0, 1, 2)])
        self.check([["a", "a"]], "a a | a ..1 | a ?", [(0, 0, 1), (0, 0, 2), (0, 1, 2)])

    def test_no_span_goes_over_into_the_next_row(self):
        self.check([["a", "b"], ["c"]], "b c", [])
        self.check([["a"], ["b"]], "a ..9", [(0, 0, 1)])

    def test_rows_by_their_numbers_though_their_ends_stand_otherwise(self):
        self.check([["a", "z"], ["a", "b"], ["a"]], "a", [(0, 0, 1), (1, 0, 1), (2, 0, 1)])
        self.check([["b"]] * 12, "b | ?", [(row, 0, 1) for row in range(12)])

    def test_all_small_questions(self):
        every = [list(words) for many in range(3) for words in itertools.product(("a", "ab"), repeat=many)]
        for question in small_questions():
            for rows in ([], [[]], [["a"]], [["ab", "a"], [], ["a", "ab", "b"]], every):
                self.assertEqual(met_by_ends(rows, ends(rows), question), plain_found(rows, question))

    def test_many_questions_by_seeded_chance(self):
        chance = random.Random(21)
        for number in range(1000):
            question = chance_question(chance, 3)
            rows = [[chance.choice(WORDS) for at in range(chance.randrange(5))] for row in range(chance.randrange(5))]
            self.assertEqual(met_by_ends(rows, ends(rows), question), plain_found(rows, question), (question, rows))

    def test_long_words_ahead_by_seeded_chance(self):
        chance = random.Random(22)
        for number in range(300):
            rows = [[chance.choice("ab") for at in range(chance.randrange(30))] for row in range(10)]
            first = [("word", chance.choice("ab")) for at in range(chance.randrange(6))]
            question = [first + [("upto", chance.randrange(4)), ("begin", "a")], first + [("any",)]]
            self.assertEqual(met_by_ends(rows, ends(rows), question), all_met(rows, question), (question, rows))

    def test_great_sizes(self):
        wordy = [" ".join(["a"] * 100), " ".join(["a"] * 101), " ".join(["a", "b"] * 50), "x y x ..9 y", "w150 ..9",
                 " | ".join("w" + str(number) for number in range(150)), " ".join(["( a | a a | a* *a )"] * 37),
                 " ".join(["( ..9 | a* ..9 )"] * 42 + ["b"])]
        for text in great_texts() + wordy:
            question = read_question(text)
            for rows in great_rows():
                places = ends(rows)
                with good_time(20):
                    told = met_by_ends(rows, places, question)
                self.assertEqual(told, all_met(rows, question), text)

    def test_somewhat_beyond_what_is_named(self):
        for question in (nested(25, ("word", "the")), [[("upto", 12)]], [[("word", "by"), ("upto", 12)]]):
            self.assertEqual(met_by_ends(ROWS, ends(ROWS), question), all_met(ROWS, question))

    def test_told_lists_are_the_askers_own(self):
        for text in ("the", "( the | ..2 ) ?", "..0", "cat", "the mill | a"):
            for rows in (ROWS, [], [[]]):
                check_own(self, met_by_ends, [list(row) for row in rows], ends(rows), read_question(text))


if __name__ == "__main__":
    unittest.main()
