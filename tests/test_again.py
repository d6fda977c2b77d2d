"""Points 12 to 15, and point 2 for them: places_of, full_stretches, neighbours."""

import itertools
import unittest

from besidewords.again import full_stretches, neighbours, places_of
from besidewords.ends import end_of
from tests.helper import (
    all_stretches, check_own, great_rows, plain_beside, plain_comes, plain_full, plain_places, small_rows)

MILL = [["the", "mill", "by", "the", "mill"], [], ["the", "mill"], ["by"]]
EDGES = [[], [[]], [["a"]], [["a"], ["a"]], [["a", "a", "a"]], MILL]


def asked_stretches(rows):
    return sorted(all_stretches(rows)) + [("c",), ("a", "c"), ("aa",), ("a",) * 101]


def some_stretches(rows):
    """Of great rows not all stretches, but short and long ones from all over."""
    return {tuple(end_of(rows, place)[:many]) for place in plain_places(rows)[::23] for many in (1, 2, 49, 99, 100)}


class PlacesOf(unittest.TestCase):
    def test_ordinary(self):
        self.assertEqual(places_of(MILL, ("the",)), [(0, 0), (0, 3), (2, 0)])
        self.assertEqual(places_of(MILL, ("by",)), [(0, 2), (3, 0)])
        self.assertEqual(places_of(MILL, ("mill", "by", "the")), [(0, 1)])

    def test_a_stretch_that_reaches_the_rows_end(self):
        self.assertEqual(places_of(MILL, ("the", "mill")), [(0, 0), (0, 3), (2, 0)])
        self.assertEqual(places_of(MILL, ("by", "the", "mill")), [(0, 2)])
        self.assertEqual(places_of(MILL, tuple(MILL[0])), [(0, 0)])

    def test_a_stretch_that_overlaps_itself(self):
        self.assertEqual(places_of([["a", "b", "a", "b", "a"]], ("a", "b", "a")), [(0, 0), (0, 2)])
        self.assertEqual(places_of([["a", "a", "a", "a"]], ("a", "a")), [(0, 0), (0, 1), (0, 2)])

    def test_nowhere(self):
        for stretch in (("cat",), ("mil",), ("mills",), ("mill", "the"), ("by", "the", "mill", "by"), ("the",) * 6):
            self.assertEqual(places_of(MILL, stretch), [])
        for rows in ([], [[]], [[], []]):
            self.assertEqual(places_of(rows, ("a",)), [])

    def test_no_stretch_goes_over_into_the_next_row(self):
        self.assertEqual(places_of([["a", "b"], ["c", "a", "b", "c"]], ("b", "c")), [(1, 2)])

    def test_all_small_rows_and_the_greatest(self):
        for rows in small_rows(5):
            for stretch in asked_stretches(rows):
                self.assertEqual(places_of(rows, stretch), plain_comes(rows, stretch))
        for rows in great_rows():
            for stretch in some_stretches(rows):
                self.assertEqual(places_of(rows, stretch), plain_comes(rows, stretch))

    def test_told_lists_are_the_askers_own(self):
        for rows in EDGES:
            for stretch in (("a",), ("the", "mill"), ("zz",)):
                check_own(self, places_of, [list(row) for row in rows], stretch)


class FullStretches(unittest.TestCase):
    def test_ordinary(self):
        self.assertEqual(full_stretches(MILL), [(("by",), [(0, 2), (3, 0)]),
                                                (("the", "mill"), [(0, 0), (0, 3), (2, 0)])])

    def test_none_comes_again(self):
        for rows in ([], [[]], [[], []], [["a"]], [["a", "b"], ["c"]], [["ab"], ["a"], ["b"]]):
            self.assertEqual(full_stretches(rows), [])

    def test_longer_ahead_only(self):
        rows = [["x", "a", "b"], ["x", "a", "c"]]
        self.assertEqual(full_stretches(rows), [(("x", "a"), [(0, 0), (1, 0)])])

    def test_longer_behind_only(self):
        rows = [["b", "a", "x"], ["c", "a", "x"]]
        self.assertEqual(full_stretches(rows), [(("a", "x"), [(0, 1), (1, 1)])])

    def test_a_missing_word_makes_none_longer(self):
        self.assertEqual(full_stretches([["a"], ["a"]]), [(("a",), [(0, 0), (1, 0)])])
        self.assertEqual(full_stretches([["x", "a"], ["a"]]), [(("a",), [(0, 1), (1, 0)])])
        self.assertEqual(full_stretches([["a", "x"], ["a"]]), [(("a",), [(0, 0), (1, 0)])])
        self.assertEqual(full_stretches([["x", "a"], ["a", "y"]]), [(("a",), [(0, 1), (1, 0)])])

    def test_like_rows(self):
        self.assertEqual(full_stretches([["b", "a"], ["b", "a"], ["b", "a"]]),
                         [(("b", "a"), [(0, 0), (1, 0), (2, 0)])])

    def test_a_full_stretch_within_another(self):
        rows = [["a", "b"], ["a", "b"], ["b"], ["c", "b", "d"]]
        self.assertEqual(full_stretches(rows), [(("a", "b"), [(0, 0), (1, 0)]),
                                                (("b",), [(0, 1), (1, 1), (2, 0), (3, 1)])])

    def test_overlapping_themselves(self):
        self.assertEqual(full_stretches([["a", "a", "a"]]),
                         [(("a",), [(0, 0), (0, 1), (0, 2)]), (("a", "a"), [(0, 0), (0, 1)])])
        self.assertEqual(full_stretches([["a", "b", "a", "b", "a"]]),
                         [(("a",), [(0, 0), (0, 2), (0, 4)]), (("a", "b", "a"), [(0, 0), (0, 2)])])

    def test_the_order_of_stretches_is_word_by_word(self):
        rows = [["ab"], ["ab"], ["a", "z"], ["a", "z"], ["a"], ["10"], ["9"], ["10"], ["9"]]
        self.assertEqual([stretch for stretch, places in full_stretches(rows)],
                         [("10",), ("9",), ("a",), ("a", "z"), ("ab",)])

    def test_places_rise_though_their_ends_do_not(self):
        rows = [["a", "z"], ["a", "b"], ["a"]]
        self.assertEqual(full_stretches(rows), [(("a",), [(0, 0), (1, 0), (2, 0)])])

    def test_all_small_rows(self):
        for rows in small_rows(7):
            self.assertEqual(full_stretches(rows), plain_full(rows))

    def test_small_rows_of_three_words(self):
        for signs in itertools.product("abc/", repeat=6):
            rows = [list(part) for part in "".join(signs).split("/")]
            self.assertEqual(full_stretches(rows), plain_full(rows))

    def test_great_sizes(self):
        for rows in great_rows():
            told = full_stretches(rows)
            stretches = [stretch for stretch, places in told]
            self.assertEqual(stretches, sorted(set(stretches)))
            for stretch, places in told[::7]:
                self.assertEqual(places, plain_comes(rows, stretch))
        hundred, like, turns, lone, uneven = [full_stretches(rows) for rows in great_rows()]
        self.assertEqual([stretch for stretch, places in hundred], [("a",) * many for many in (1, 2, 3)])
        self.assertEqual([len(places) for stretch, places in hundred], [300, 200, 100])
        self.assertEqual([stretch for stretch, places in like], [("a",) * many for many in range(1, 101)])
        self.assertEqual([len(places) for stretch, places in like], [3 * many for many in range(100, 0, -1)])
        self.assertEqual(lone, [])

    def test_told_lists_are_the_askers_own(self):
        for rows in EDGES:
            check_own(self, full_stretches, [list(row) for row in rows])

    def test_no_two_told_lists_are_one(self):
        lists = [places for stretch, places in full_stretches(MILL + [["a", "a", "a"]])]
        self.assertEqual(len({id(places) for places in lists}), len(lists))


class Neighbours(unittest.TestCase):
    def test_ordinary(self):
        self.assertEqual(neighbours(MILL, ("the", "mill")), ([("", 2), ("by", 1)], [("", 2), ("by", 1)]))
        self.assertEqual(neighbours(MILL, ("mill",)), ([("the", 3)], [("", 2), ("by", 1)]))
        self.assertEqual(neighbours(MILL, ("by",)), ([("", 1), ("mill", 1)], [("", 1), ("the", 1)]))

    def test_once_and_nowhere(self):
        self.assertEqual(neighbours(MILL, ("by", "the")), ([("mill", 1)], [("mill", 1)]))
        self.assertEqual(neighbours(MILL, tuple(MILL[0])), ([("", 1)], [("", 1)]))
        for rows in (MILL, [], [[]]):
            self.assertEqual(neighbours(rows, ("cat",)), ([], []))
        self.assertEqual(neighbours(MILL, ("mill", "the")), ([], []))

    def test_overlapping_itself(self):
        self.assertEqual(neighbours([["a", "a", "a"]], ("a", "a")), ([("", 1), ("a", 1)], [("", 1), ("a", 1)]))
        self.assertEqual(neighbours([["a", "b", "a", "b", "a"]], ("a", "b", "a")),
                         ([("", 1), ("b", 1)], [("", 1), ("b", 1)]))

    def test_by_words_rising_not_by_numbers(self):
        rows = [["c", "a", "z"], ["c", "a", "z"], ["b", "a", "y"], ["9", "a", "10"], ["10", "a", "9"]]
        self.assertEqual(neighbours(rows, ("a",)), ([("10", 1), ("9", 1), ("b", 1), ("c", 2)],
                                                    [("10", 1), ("9", 1), ("y", 1), ("z", 2)]))

    def test_all_small_rows_and_the_greatest(self):
        for rows in small_rows(5):
            for stretch in asked_stretches(rows):
                self.check_plain(rows, stretch)
        for rows in great_rows():
            for stretch in some_stretches(rows):
                self.check_plain(rows, stretch)

    def check_plain(self, rows, stretch):
        plain = [[(word, words.count(word)) for word in sorted(set(words))] for words in plain_beside(rows, stretch)]
        self.assertEqual(neighbours(rows, stretch), tuple(plain))

    def test_told_lists_are_the_askers_own(self):
        for rows in EDGES:
            for stretch in (("a",), ("the", "mill"), ("zz",)):
                check_own(self, neighbours, [list(row) for row in rows], stretch)

    def test_the_two_lists_are_not_one(self):
        told = neighbours([["a"]], ("b",))
        told[0].append("spoilt")
        self.assertEqual(told[1], [])


if __name__ == "__main__":
    unittest.main()
