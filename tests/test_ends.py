"""Points 8 to 11, and point 2 for them: end_of, ends, shares, stretch_of, is_row_of_ends."""

import itertools
import unittest

from besidewords.ends import end_of, ends, is_row_of_ends, shares, stretch_of
from tests.helper import check_own, great_rows, list_ahead, plain_ends, plain_places, plain_shares, small_rows

MILL = [["the", "mill", "by", "the", "mill"], [], ["the", "mill"], ["by"]]
MILL_ENDS = [(3, 0), (0, 2), (0, 4), (2, 1), (0, 1), (0, 3), (2, 0), (0, 0)]
MILL_SHARES = [0, 1, 0, 1, 1, 0, 2, 2]
EDGES = [[], [[]], [[], []], [["a"]], [["a"], ["a"]], [["a", "a", "a"]], [[], ["b", "a"], [], ["b"]], MILL]


class EndOf(unittest.TestCase):
    def test_ordinary(self):
        self.assertEqual(end_of(MILL, (0, 0)), ["the", "mill", "by", "the", "mill"])
        self.assertEqual(end_of(MILL, (0, 3)), ["the", "mill"])
        self.assertEqual(end_of(MILL, (0, 4)), ["mill"])
        self.assertEqual(end_of(MILL, (3, 0)), ["by"])

    def test_the_row_of_a_hundred_words(self):
        row = ["w" + str(number) for number in range(100)]
        for at in range(100):
            self.assertEqual(end_of([[], row], (1, at)), ["w" + str(number) for number in range(at, 100)])

    def test_told_lists_are_the_askers_own(self):
        for place in plain_places(MILL):
            check_own(self, end_of, [list(row) for row in MILL], place)


class Ends(unittest.TestCase):
    def test_ordinary(self):
        self.assertEqual(ends(MILL), MILL_ENDS)

    def test_no_words(self):
        for rows in ([], [[]], [[], []]):
            self.assertEqual(ends(rows), [])

    def test_like_ends_by_the_lesser_place(self):
        self.assertEqual(ends([["a"], ["a"], [], ["a"]]), [(0, 0), (1, 0), (3, 0)])
        self.assertEqual(ends([["b", "a"], ["a"]]), [(0, 1), (1, 0), (0, 0)])
        rows = [["x"]] + [["a"]] * 11
        self.assertEqual(ends(rows), [(row, 0) for row in range(1, 12)] + [(0, 0)])

    def test_an_end_that_begins_another_comes_ahead(self):
        self.assertEqual(ends([["a", "b"], ["a"]]), [(1, 0), (0, 0), (0, 1)])
        self.assertEqual(ends([["a", "a", "a"]]), [(0, 2), (0, 1), (0, 0)])

    def test_words_that_begin_one_another_are_compared_word_by_word(self):
        rows = [["a", "z"], ["ab"], ["a1"], ["ab", "a"], ["10"], ["9"]]
        self.assertEqual(ends(rows), [(4, 0), (5, 0), (3, 1), (0, 0), (2, 0), (1, 0), (3, 0), (0, 1)])

    def test_all_small_rows_and_the_greatest(self):
        for rows in list(small_rows(6)) + great_rows():
            self.assertEqual(ends(rows), plain_ends(rows))

    def test_told_lists_are_the_askers_own(self):
        for rows in EDGES:
            check_own(self, ends, [list(row) for row in rows])


class Shares(unittest.TestCase):
    def test_ordinary(self):
        self.assertEqual(shares(MILL, MILL_ENDS), MILL_SHARES)

    def test_no_places_and_one(self):
        self.assertEqual(shares([], []), [])
        self.assertEqual(shares(MILL, []), [])
        for place in MILL_ENDS:
            self.assertEqual(shares(MILL, [place]), [0])

    def test_places_in_any_order_twice_or_lacking(self):
        self.assertEqual(shares(MILL, [(0, 0), (0, 0), (2, 0), (0, 0), (3, 0), (0, 2)]), [0, 5, 2, 2, 0, 1])

    def test_words_in_common_behind_a_difference_do_not_count(self):
        self.assertEqual(shares([["a", "b", "c"], ["a", "x", "c"]], [(0, 0), (1, 0)]), [0, 1])

    def test_words_that_begin_one_another_are_not_in_common(self):
        self.assertEqual(shares([["ab", "c"], ["a", "c"]], [(0, 0), (1, 0)]), [0, 0])

    def test_all_small_rows_and_the_greatest(self):
        for rows in list(small_rows(5)) + great_rows():
            for places in (ends(rows), plain_places(rows), plain_places(rows)[::-1]):
                self.assertEqual(shares(rows, places), plain_shares(rows, places))

    def test_told_lists_are_the_askers_own(self):
        for rows in EDGES:
            check_own(self, shares, [list(row) for row in rows], ends(rows))


def plain_stretch(rows, places, words):
    """The numbers that begin with the words, or the number of ends that come ahead of them."""
    told = [rows[row][at:] for row, at in places]
    numbers = [number for number, end in enumerate(told) if end[:len(words)] == words]
    if numbers:
        return (numbers[0], numbers[-1] + 1)
    ahead = sum(list_ahead(end, words) for end in told)
    return (ahead, ahead)


class StretchOf(unittest.TestCase):
    def test_ordinary(self):
        for words, told in (
                (["by"], (0, 2)), (["by", "the"], (1, 2)), (["mill"], (2, 5)), (["mill", "by"], (4, 5)),
                (["the"], (5, 8)), (["the", "mill"], (5, 8)), (["the", "mill", "by"], (7, 8))):
            self.assertEqual(stretch_of(MILL, MILL_ENDS, words), told)

    def test_words_that_come_nowhere(self):
        for words, told in ((["by", "mill"], (1, 1)), (["cat"], (2, 2)), (["mill", "cat"], (5, 5)), (["th"], (5, 5)),
                            (["mi"], (2, 2)), (["mills"], (5, 5)), (["the", "mill", "a"], (7, 7)),
                            (["the", "mill", "by", "the", "mill", "a"], (8, 8))):
            self.assertEqual(stretch_of(MILL, MILL_ENDS, words), told)

    def test_less_or_greater_than_all(self):
        for words in (["a"], ["0"], ["b", "y"]):
            self.assertEqual(stretch_of(MILL, MILL_ENDS, words), (0, 0))
        for words in (["z"], ["the", "n"], ["thee"]):
            self.assertEqual(stretch_of(MILL, MILL_ENDS, words), (8, 8))

    def test_no_words_in_the_rows(self):
        for rows in ([], [[]]):
            self.assertEqual(stretch_of(rows, [], ["a"]), (0, 0))

    def test_a_whole_end_and_one_word_more(self):
        self.assertEqual(stretch_of([["a", "a"]], [(0, 1), (0, 0)], ["a", "a"]), (1, 2))
        self.assertEqual(stretch_of([["a", "a"]], [(0, 1), (0, 0)], ["a", "a", "a"]), (2, 2))

    def test_all_small_rows(self):
        asked = [list(words) for many in (1, 2, 3) for words in itertools.product("ab", repeat=many)]
        asked += [["0"], ["aa"], ["c"], ["a", "0"], ["a", "c"], ["b", "0"], ["b", "c"], ["b", "aa"]]
        for rows in small_rows(5):
            places = plain_ends(rows)
            for words in asked:
                self.assertEqual(stretch_of(rows, places, words), plain_stretch(rows, places, words))

    def test_great_sizes(self):
        for rows in great_rows():
            places = ends(rows)
            asked = [end_of(rows, place)[:many] for place in places[::17] for many in (1, 2, 50, 100)]
            for words in asked + [["0"], ["zz"], ["a"] * 101, ["b", "aa"], ["w150"], ["w15"], ["w1500"]]:
                self.assertEqual(stretch_of(rows, places, words), plain_stretch(rows, places, words))

    def test_what_is_handed_in_stays(self):
        for rows in EDGES:
            for words in (["a"], ["a", "a"], ["the", "mill"], ["zz"]):
                check_own(self, stretch_of, [list(row) for row in rows], ends(rows), list(words))


class IsRowOfEnds(unittest.TestCase):
    def check(self, rows, places, numbers, told):
        self.assertIs(is_row_of_ends(rows, places, numbers), told, (rows, places, numbers))

    def test_ordinary(self):
        self.check(MILL, MILL_ENDS, MILL_SHARES, True)

    def test_no_words(self):
        for rows in ([], [[]], [[], []]):
            self.check(rows, [], [], True)
            self.check(rows, [], [0], False)

    def test_two_places_changed_about(self):
        for one, other in itertools.combinations(range(8), 2):
            places = list(MILL_ENDS)
            places[one], places[other] = places[other], places[one]
            self.check(MILL, places, shares(MILL, places), False)
            self.check(MILL, places, MILL_SHARES, False)

    def test_like_ends_in_the_wrong_order(self):
        self.check([["a"], ["a"]], [(0, 0), (1, 0)], [0, 1], True)
        self.check([["a"], ["a"]], [(1, 0), (0, 0)], [0, 1], False)

    def test_some_twice_and_some_lacking(self):
        for number in range(8):
            lacking = MILL_ENDS[:number] + MILL_ENDS[number + 1:]
            twice = MILL_ENDS[:number] + [MILL_ENDS[number]] + MILL_ENDS[number:]
            shifted = [places for places in (twice[:8], twice[1:]) if places != MILL_ENDS]
            for places in [lacking, twice] + shifted:
                self.check(MILL, places, shares(MILL, places), False)
                self.check(MILL, places, MILL_SHARES, False)
        self.check(MILL, [], [], False)

    def test_numbers_of_another_length(self):
        for numbers in ([], MILL_SHARES[:-1], MILL_SHARES[1:], MILL_SHARES + [0], MILL_SHARES + [2], [0] + MILL_SHARES):
            self.check(MILL, MILL_ENDS, numbers, False)

    def test_one_wrong_number(self):
        for number in range(8):
            for change in (-1, 1, 10 ** 30, -10 ** 30):
                numbers = list(MILL_SHARES)
                numbers[number] += change
                self.check(MILL, MILL_ENDS, numbers, False)

    def test_all_small_lists_of_places_and_numbers(self):
        for rows in ([["a"]], [["a", "a"]], [["a"], ["a"]], [["b", "a"], []], [["a", "b"], ["a"]], [["a", "a", "a"]]):
            row_of_ends = plain_ends(rows)
            numbers_of_it = plain_shares(rows, row_of_ends)
            many = len(row_of_ends) + 2
            lists = [list(told) for size in range(many) for told in itertools.product(plain_places(rows), repeat=size)]
            numbers = [list(told) for size in range(many) for told in itertools.product((0, 1, 2), repeat=size)]
            for places in lists:
                for told in numbers:
                    self.check(rows, places, told, places == row_of_ends and told == numbers_of_it)

    def test_great_sizes(self):
        for rows in great_rows():
            places = plain_ends(rows)
            numbers = plain_shares(rows, places)
            self.check(rows, places, numbers, True)
            self.check(rows, places, numbers[:-1] + [numbers[-1] + 1], False)
            self.check(rows, places[:-2] + [places[-1], places[-2]], numbers, False)
            self.check(rows, places[:-1], numbers[:-1], False)
            self.check(rows, places[1:] + places[:1], numbers, False)

    def test_it_lets_by_what_ends_and_shares_tell(self):
        for rows in small_rows(6):
            self.check(rows, ends(rows), shares(rows, ends(rows)), True)

    def test_what_is_handed_in_stays(self):
        for rows in EDGES:
            copied = [list(row) for row in rows]
            check_own(self, is_row_of_ends, copied, ends(rows), shares(rows, ends(rows)))
        check_own(self, is_row_of_ends, [["b", "a"]], [(0, 0), (0, 0)], [5, 0, 7])


if __name__ == "__main__":
    unittest.main()
