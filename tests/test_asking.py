"""Points 19 to 21, and point 2 for them: spans and all_met."""

import itertools
import random
import unittest

from besidewords.asking import all_met, spans
from besidewords.questions import read_question
from tests.helper import (
    WORDS, chance_question, check_own, good_time, great_rows, great_texts, met_lengths, nested, plain_found,
    plain_spans, small_questions)

MILL = ["the", "mill", "by", "the", "mill", "race"]
ROWS = [MILL, [], ["the", "race"], ["by"]]


class Spans(unittest.TestCase):
    def check(self, text, row, told):
        self.assertEqual(spans(read_question(text), row), told, text)

    def test_word(self):
        self.check("the", MILL, [(0, 1), (3, 4)])
        self.check("race", MILL, [(5, 6)])
        for text in ("th", "thee", "he", "mil", "cat", "t"):
            self.check(text, MILL, [])

    def test_begin(self):
        self.check("m*", MILL, [(1, 2), (4, 5)])
        self.check("mil*", MILL, [(1, 2), (4, 5)])
        self.check("mill*", MILL, [(1, 2), (4, 5)])
        for text in ("mills*", "ill*", "e*", "l*"):
            self.check(text, MILL, [])

    def test_end(self):
        self.check("*e", MILL, [(0, 1), (3, 4), (5, 6)])
        self.check("*ace", MILL, [(5, 6)])
        self.check("*race", MILL, [(5, 6)])
        for text in ("*mil", "*r", "*xrace", "*th"):
            self.check(text, MILL, [])

    def test_any(self):
        self.check("?", MILL, [(at, at + 1) for at in range(6)])

    def test_upto(self):
        for most in range(10):
            for length in range(12):
                told = [(low, high) for low in range(length + 1) for high in range(low, length + 1)
                        if high - low <= most]
                self.check(".." + str(most), ["a"] * length, told)

    def test_in(self):
        self.check("( the )", MILL, [(0, 1), (3, 4)])
        self.check("( the | mill by )", MILL, [(0, 1), (1, 3), (3, 4)])
        self.check("( ( race ) )", MILL, [(5, 6)])

    def test_parts_one_behind_another(self):
        self.check("the mill", MILL, [(0, 2), (3, 5)])
        self.check("mill the", MILL, [])
        self.check("the ? by", MILL, [(0, 3)])
        self.check("m* *e", MILL, [(4, 6)])
        self.check("the ..1 by", MILL, [(0, 3)])
        self.check("the ..9 mill", MILL, [(0, 2), (0, 5), (3, 5)])
        self.check("by ..0 the ..0 mill", MILL, [(2, 5)])
        self.check("? ? ? ? ? ?", MILL, [(0, 6)])
        self.check("? ? ? ? ? ? ?", MILL, [])

    def test_a_row_of_parts_goes_on_where_the_one_ahead_is_over(self):
        self.check("( the mill | the ) ( by | mill by )", MILL, [(0, 3)])
        self.check("..2 race", MILL, [(3, 6), (4, 6), (5, 6)])
        self.check("race ..2", MILL, [(5, 6)])

    def test_spans_that_are_cut_in_more_than_one_way_are_told_once(self):
        self.check("..1 ..1", ["a", "b"], [(0, 0), (0, 1), (0, 2), (1, 1), (1, 2), (2, 2)])
        self.check("..9 ..9", ["a"], [(0, 0), (0, 1), (1, 1)])
        self.check("..1 ? ..1", ["a", "b"], [(0, 1), (0, 2), (1, 2)])
        self.check("( a | a a ) ( a | a a )", ["a"] * 4, [(0, 2), (0, 3), (0, 4), (1, 3), (1, 4), (2, 4)])

    def test_spans_that_two_rows_of_parts_meet_are_told_once(self):
        self.check("the | th* | *e | ?", ["the"], [(0, 1)])
        self.check("a | a", ["a", "a"], [(0, 1), (1, 2)])
        self.check("..0 | ..0", ["a"], [(0, 0), (1, 1)])
        self.check("( a | a ) | ( a | ? )", ["a", "b"], [(0, 1), (1, 2)])

    def test_choices_are_told_in_the_order_of_the_row(self):
        self.check("race | the mill | the | mill", MILL,
                   [(0, 1), (0, 2), (1, 2), (3, 4), (3, 5), (4, 5), (5, 6)])

    def test_spans_without_words(self):
        self.check("..0", ["a", "b"], [(0, 0), (1, 1), (2, 2)])
        self.check("( ..0 | b )", ["a", "b"], [(0, 0), (1, 1), (1, 2), (2, 2)])
        self.check("a | ..0 ..0", ["b", "a"], [(0, 0), (1, 1), (1, 2), (2, 2)])
        self.check("..0 a ..0", ["b", "a"], [(1, 2)])

    def test_a_row_without_words(self):
        for text in ("..0", "..9", "a | ..3", "( ..1 | a ) ..2", "( ( ..0 ) )"):
            self.check(text, [], [(0, 0)])
        for text in ("a", "a*", "*a", "?", "..9 ?", "( a | ? )", "..0 a | ? ..0"):
            self.check(text, [], [])

    def test_a_word_is_compared_as_a_text(self):
        self.check("10", ["10", "010", "1", "0"], [(0, 1)])
        self.check("1*", ["10", "010", "1", "0"], [(0, 1), (2, 3)])
        self.check("*0", ["10", "010", "1", "0"], [(0, 1), (1, 2), (3, 4)])

    def test_all_small_questions_in_all_small_rows(self):
        rows = [list(words) for many in range(4) for words in itertools.product(("a", "ab", "ba"), repeat=many)]
        for question in small_questions():
            for row in rows:
                self.assertEqual(spans(question, row), plain_spans(question, row), (question, row))

    def test_many_questions_by_seeded_chance(self):
        chance = random.Random(19)
        for number in range(1500):
            question = chance_question(chance, 3)
            row = [chance.choice(WORDS) for at in range(chance.randrange(6))]
            self.assertEqual(spans(question, row), plain_spans(question, row), (question, row))

    def test_twenty_brackets_deep(self):
        for depth in range(26):
            self.assertEqual(spans(nested(depth, ("word", "the")), MILL), [(0, 1), (3, 4)])
            self.assertEqual(spans(nested(depth, ("upto", 0)), []), [(0, 0)])

    def test_somewhat_beyond_what_is_named(self):
        self.assertEqual(spans([[("upto", 12)]], ["a"] * 13),
                         [(low, high) for low in range(14) for high in range(low, 14) if high - low <= 12])
        self.assertEqual(spans([[("word", "a")] * 120], ["a"] * 121), [(0, 120), (1, 121)])

    def test_told_lists_are_the_askers_own(self):
        for text in ("the", "( the | ..2 ) ?", "..0", "cat"):
            for row in (MILL, [], ["a"]):
                check_own(self, spans, read_question(text), list(row))


class AllMet(unittest.TestCase):
    def test_ordinary(self):
        self.assertEqual(all_met(ROWS, read_question("the ..2 race | by")),
                         [(0, 2, 3), (0, 3, 6), (2, 0, 2), (3, 0, 1)])

    def test_spans_without_words_in_every_row(self):
        told = [(0, at, at) for at in range(7)] + [(1, 0, 0), (2, 0, 0), (2, 1, 1), (2, 2, 2), (3, 0, 0), (3, 1, 1)]
        self.assertEqual(all_met(ROWS, read_question("..0")), told)

    def test_no_rows_and_rows_without_words(self):
        for text in ("..0", "a", "( ..2 | ? )"):
            self.assertEqual(all_met([], read_question(text)), [])
        self.assertEqual(all_met([[], []], read_question("..5")), [(0, 0, 0), (1, 0, 0)])
        self.assertEqual(all_met([[], []], read_question("?")), [])

    def test_no_span_goes_over_into_the_next_row(self):
        self.assertEqual(all_met([["a", "b"], ["c"]], read_question("b c")), [])
        self.assertEqual(all_met([["a"], ["b"]], read_question("a ..9 | ..9 b")), [(0, 0, 1), (1, 0, 1)])

    def test_rows_in_the_order_of_their_numbers(self):
        rows = [["b"] for number in range(12)]
        self.assertEqual(all_met(rows, read_question("b")), [(number, 0, 1) for number in range(12)])

    def test_plain_reading(self):
        chance = random.Random(21)
        for number in range(500):
            question = chance_question(chance, 2)
            rows = [[chance.choice(WORDS) for at in range(chance.randrange(5))] for row in range(chance.randrange(5))]
            self.assertEqual(all_met(rows, question), plain_found(rows, question), (question, rows))

    def test_great_sizes(self):
        for text in great_texts():
            question = read_question(text)
            lengths = met_lengths(question, 100)
            for rows in great_rows():
                with good_time(20):
                    told = all_met(rows, question)
                self.assertEqual(told, [(number, low, high) for number, row in enumerate(rows)
                                        for low in range(len(row) + 1) for high in range(low, len(row) + 1)
                                        if high - low in lengths], text)

    def test_great_questions_of_words(self):
        hundred, like, turns, lone, uneven = great_rows()
        with good_time(20):
            whole = read_question(" ".join(lone[1]))
            self.assertEqual(all_met(lone, whole), [(1, 0, 100)])
            choice = read_question(" | ".join(lone[0] + lone[2][:50]))
            self.assertEqual(all_met(lone, choice),
                             [(0, at, at + 1) for at in range(100)] + [(2, at, at + 1) for at in range(50)])
            pieces = read_question(" ".join(["( a | a a | a* *a )"] * 37))
            self.assertEqual(all_met(like, pieces), [(row, low, high) for row in range(3) for low in range(101)
                                                     for high in range(low + 37, min(low + 74, 100) + 1)])
            never = read_question(" ".join(["( ..9 | a* ..9 )"] * 42 + ["b"]))
            self.assertEqual(all_met(like, never), [])

    def test_told_lists_are_the_askers_own(self):
        for text in ("the", "( the | ..2 ) ?", "..0", "cat"):
            for rows in (ROWS, [], [[]]):
                check_own(self, all_met, [list(row) for row in rows], read_question(text))


if __name__ == "__main__":
    unittest.main()
