"""Points 4 to 7, and point 2 for them: is_word, rows_of, show_rows, counted."""

import unittest

from besidewords.words import counted, is_word, rows_of, show_rows
from tests.helper import check_own, great_rows, small_rows

SMALL = "abcdefghijklmnopqrstuvwxyz"
GREAT = "ABCDEFGHIJKLMNOPQRSTUVWXYZ"
FIGURES = "0123456789"
OTHERS = [chr(number) for number in range(32, 127) if chr(number) not in SMALL + GREAT + FIGURES + "%"]


class IsWord(unittest.TestCase):
    def test_small_letters_and_figures(self):
        for text in list(SMALL + FIGURES) + ["mill", "7", "007", "a1b2", "1a", SMALL + FIGURES, "a" * 10000]:
            self.assertIs(is_word(text), True, text)

    def test_the_text_without_signs_is_none(self):
        self.assertIs(is_word(""), False)

    def test_every_other_sign_alone_ahead_within_and_behind(self):
        for sign in OTHERS + list(GREAT) + ["\n"]:
            for text in (sign, sign + "ab", "a" + sign + "b", "ab" + sign):
                self.assertIs(is_word(text), False, text)

    def test_a_long_text_with_one_wrong_sign(self):
        self.assertIs(is_word("a" * 9999 + "-"), False)
        self.assertIs(is_word("-" + "a" * 9999), False)


class RowsOf(unittest.TestCase):
    def test_ordinary(self):
        self.assertEqual(rows_of("The mill, by the Mill-race.\nIt's 12 o'clock!"),
                         [["the", "mill", "by", "the", "mill", "race"], ["it", "s", "12", "o", "clock"]])

    def test_no_rows(self):
        for text in ("", " ", "\n", "\n\n", " \n ", "-", ".,;\n--\n ", "".join(OTHERS)):
            self.assertEqual(rows_of(text), [], text)

    def test_one_sign(self):
        for sign in SMALL + FIGURES:
            self.assertEqual(rows_of(sign), [[sign]])
        for great, small in zip(GREAT, SMALL):
            self.assertEqual(rows_of(great), [[small]])
        for sign in OTHERS + ["\n"]:
            self.assertEqual(rows_of(sign), [])

    def test_parts_without_words_are_no_rows(self):
        self.assertEqual(rows_of("\na\n\n b\n - \n--\nc\n"), [["a"], ["b"], ["c"]])

    def test_every_other_sign_parts_words_and_no_rows(self):
        for sign in OTHERS:
            self.assertEqual(rows_of("ab" + sign + "c1"), [["ab", "c1"]], sign)
            self.assertEqual(rows_of(sign + "ab" + sign + sign + "c1" + sign), [["ab", "c1"]], sign)

    def test_only_line_feeds_part_rows(self):
        self.assertEqual(rows_of("a b\nc"), [["a", "b"], ["c"]])

    def test_letters_and_figures_hold_together(self):
        self.assertEqual(rows_of("4Th 10x a1B2 X9"), [["4th", "10x", "a1b2", "x9"]])
        self.assertEqual(rows_of(SMALL + GREAT + FIGURES), [[SMALL + SMALL + FIGURES]])

    def test_a_word_that_comes_twice_stays_twice(self):
        self.assertEqual(rows_of("a a\na"), [["a", "a"], ["a"]])

    def test_ten_thousand_signs(self):
        self.assertEqual(rows_of("A" * 10000), [["a" * 10000]])
        self.assertEqual(rows_of("-" * 10000), [])
        self.assertEqual(rows_of("\n" * 10000), [])
        self.assertEqual(rows_of("ab " * 100 + "-" * 9700), [["ab"] * 100])
        self.assertEqual(rows_of(("a b c" + "." * 95 + "\n") * 99 + "d" * 1), [["a", "b", "c"]] * 99 + [["d"]])

    def test_told_lists_are_the_askers_own(self):
        for text in ("", "a", "a b\na b", "a\n\nb"):
            check_own(self, rows_of, text)

    def test_like_rows_are_not_one_list(self):
        rows = rows_of("a b\na b")
        rows[0].append("c")
        self.assertEqual(rows, [["a", "b", "c"], ["a", "b"]])


class ShowRows(unittest.TestCase):
    def test_ordinary(self):
        self.assertEqual(show_rows([["the", "mill"], ["by"], ["the", "7", "races"]]), "the mill\nby\nthe 7 races")

    def test_edges(self):
        self.assertEqual(show_rows([]), "")
        self.assertEqual(show_rows([["a"]]), "a")
        self.assertEqual(show_rows([["a", "a"]]), "a a")
        self.assertEqual(show_rows([["a"], ["a"]]), "a\na")

    def test_read_again_as_the_same_rows(self):
        for rows in list(small_rows(6)) + great_rows():
            full = [row for row in rows if row]
            self.assertEqual(rows_of(show_rows(full)), full)

    def test_what_is_handed_in_stays(self):
        for rows in ([], [["a"]], [["a", "b"], ["c"]]):
            check_own(self, show_rows, rows)


class Counted(unittest.TestCase):
    def test_ordinary(self):
        rows = [["the", "mill", "by", "the", "race"], ["a", "mill"], ["the", "end"]]
        self.assertEqual(counted(rows), [("the", 3), ("mill", 2), ("a", 1), ("by", 1), ("end", 1), ("race", 1)])

    def test_no_words(self):
        self.assertEqual(counted([]), [])
        self.assertEqual(counted([[]]), [])
        self.assertEqual(counted([[], []]), [])

    def test_rows_without_words_among_others(self):
        self.assertEqual(counted([[], ["b", "a"], []]), [("a", 1), ("b", 1)])

    def test_twice_in_a_row_and_over_rows(self):
        self.assertEqual(counted([["b", "b"], ["a"], ["b"]]), [("b", 3), ("a", 1)])

    def test_like_numbers_by_the_word_as_texts_are_compared(self):
        self.assertEqual(counted([["b", "a9", "10", "a", "9", "ab", "a10"]]),
                         [(word, 1) for word in ("10", "9", "a", "a10", "a9", "ab", "b")])

    def test_numbers_are_compared_as_numbers(self):
        self.assertEqual(counted([["a"] * 9 + ["b"] * 10]), [("b", 10), ("a", 9)])

    def test_all_small_rows(self):
        for rows in small_rows(5):
            words = sum(rows, [])
            plain = sorted({(-words.count(word), word) for word in words})
            self.assertEqual(counted(rows), [(word, -many) for many, word in plain])

    def test_great_sizes(self):
        told = [counted(rows) for rows in great_rows()]
        self.assertEqual(told[0], [("a", 300)])
        self.assertEqual(told[1], [("a", 300)])
        self.assertEqual(told[2], [("a", 199), ("b", 101)])
        self.assertEqual(told[3], [(word, 1) for word in sorted("w" + str(number) for number in range(300))])

    def test_told_lists_are_the_askers_own(self):
        for rows in ([], [[]], [["a"]], [["b", "a"], [], ["a"]]):
            check_own(self, counted, rows)


if __name__ == "__main__":
    unittest.main()
