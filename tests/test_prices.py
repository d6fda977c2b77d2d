"""Points 22 to 24, and point 2 for them: price, way_price, NoWay."""

import itertools
import random
import unittest

from besidewords.errors import BesideError, NoDeed, NoQuestion, NoText, NoWay, Twice
from besidewords.prices import price, way_price
from tests.helper import STEPS, all_ways, check_own, good_time, great_rows, plain_price, plain_way_price

# Each price tells itself apart from the others in a sum.
PRICES = (1, 100, 10000, 1000000, 100000000)
GREATEST = 10 ** 60

LEFTS = [["the", "mill"], ["by"], [], ["the", "race", "the"]]
RIGHTS = [["die", "muehle"], [], ["der", "bach", "am"]]
PAIRS = [("the", "die"), ("the", "der"), ("mill", "muehle"), ("race", "bach"), ("by", "am")]


class Price(unittest.TestCase):
    def test_each_of_the_five_steps(self):
        for lefts, rights, told in (
                ([["a"]], [["x"]], 1), ([["a", "a"]], [["x"], ["x"]], 100), ([["a"], ["a"]], [["x", "x"]], 100),
                ([[]], [], 10000), ([], [[]], 10000)):
            self.assertEqual(price(lefts, rights, PRICES, [("a", "x")]), told)

    def test_the_slope_is_the_difference_of_the_numbers_of_words(self):
        for lefts, rights, told in (
                ([["a", "a", "a"]], [["x"]], 2000001), ([["a"]], [["x", "x", "x"]], 2000001),
                ([["a"]], [["x"], ["x", "x"]], 2000100), ([["a", "a"], ["a"]], [["x"]], 2000100),
                ([["a"], []], [["x"]], 100), ([["a"]], [[], ["x"]], 100)):
            self.assertEqual(price(lefts, rights, PRICES, [("a", "x")]), told)

    def test_lone_words_on_both_sides(self):
        for lefts, rights, told in (
                ([["a"]], [["y"]], 200000001), ([["b"]], [["x"]], 200000001), ([["a", "b"]], [["x", "y"]], 200000001),
                ([["a", "b"]], [["x", "x"]], 100000001), ([["a", "a"]], [["x", "y"]], 100000001)):
            self.assertEqual(price(lefts, rights, PRICES, [("a", "x")]), told)

    def test_one_side_has_no_rows_or_no_words(self):
        self.assertEqual(price([["a", "b"]], [], PRICES, [("a", "x")]), 202010000)
        self.assertEqual(price([], [["x", "x", "x"]], PRICES, [("a", "x")]), 303010000)
        self.assertEqual(price([["a"]], [[]], PRICES, [("a", "x")]), 101000001)
        self.assertEqual(price([[]], [["x"], []], PRICES, [("a", "x")]), 101000100)
        self.assertEqual(price([[]], [[]], PRICES, [("a", "x")]), 1)

    def test_a_word_that_comes_twice_counts_twice(self):
        self.assertEqual(price([["b", "b"]], [["y", "y"]], PRICES, []), 400000001)
        self.assertEqual(price([["b", "b"], ["b"]], [["x", "x", "x"]], PRICES, []), 600000100)
        self.assertEqual(price([["a", "b", "b"]], [["x", "x", "x"]], PRICES, [("a", "x")]), 200000001)

    def test_a_word_in_many_pairs(self):
        pairs = [("a", "x"), ("a", "y"), ("b", "y")]
        self.assertEqual(price([["a", "a"]], [["x", "y"]], PRICES, pairs), 1)
        self.assertEqual(price([["a", "b"]], [["y", "y"]], PRICES, pairs), 1)
        self.assertEqual(price([["b", "b"]], [["x", "y"]], PRICES, pairs), 100000001)

    def test_pairs_over_both_rows_of_a_step(self):
        self.assertEqual(price([["a", "b"]], [["x"], ["y"]], PRICES, [("a", "y"), ("b", "x")]), 100)
        self.assertEqual(price([["a"], ["b"]], [["x", "y"]], PRICES, [("a", "y"), ("b", "x")]), 100)

    def test_a_pair_has_a_left_and_a_right_word(self):
        self.assertEqual(price([["x"]], [["a"]], PRICES, [("a", "x")]), 200000001)
        self.assertEqual(price([["a"]], [["a"]], PRICES, []), 200000001)
        self.assertEqual(price([["a"]], [["a"]], PRICES, [("a", "a")]), 1)
        self.assertEqual(price([["a", "x"]], [["a", "x"]], PRICES, [("a", "x")]), 200000001)

    def test_a_pair_told_twice_is_as_one_told_once(self):
        for many in (1, 2, 7):
            self.assertEqual(price([["a", "b"]], [["x", "y"]], PRICES, [("a", "x")] * many), 200000001)

    def test_the_order_of_pairs_is_nothing(self):
        for pairs in itertools.permutations(PAIRS):
            self.assertEqual(price(LEFTS[:2], RIGHTS[2:], PRICES, list(pairs)), 200000100)

    def test_no_pairs(self):
        self.assertEqual(price([["the", "mill"]], [["the", "mill"]], PRICES, []), 400000001)

    def test_the_least_and_the_greatest_prices(self):
        lefts, rights = [["a", "b", "c"]], [["x"], ["y"]]
        self.assertEqual(price(lefts, rights, (0, 0, 0, 0, 0), []), 0)
        self.assertEqual(price(lefts, rights, (GREATEST,) * 5, []), 7 * GREATEST)
        self.assertEqual(price([["a"] * 100], [], (GREATEST,) * 5, []), 201 * GREATEST)
        for number, told in enumerate((0, 1, 0, 1, 5)):
            prices = tuple([GREATEST if number == other else 0 for other in range(5)])
            self.assertEqual(price(lefts, rights, prices, []), told * GREATEST)

    def test_all_small_rows(self):
        rows = [list(words) for many in range(3) for words in itertools.product("ab", repeat=many)]
        for pairs in ([], [("a", "a")], [("a", "b")], [("a", "a"), ("a", "b")], [("b", "a"), ("a", "b"), ("b", "a")]):
            for many, others in STEPS:
                for lefts in itertools.product(rows, repeat=many):
                    for rights in itertools.product(rows, repeat=others):
                        self.assertEqual(price(list(lefts), list(rights), PRICES, pairs),
                                         plain_price(list(lefts), list(rights), PRICES, pairs))

    def test_what_is_handed_in_stays(self):
        for many, others in STEPS:
            lefts, rights = [list(row) for row in LEFTS[:many]], [list(row) for row in RIGHTS[:others]]
            check_own(self, price, lefts, rights, PRICES, list(PAIRS))


class WayPrice(unittest.TestCase):
    def test_ordinary(self):
        self.assertEqual(way_price(LEFTS, RIGHTS, PRICES, PAIRS, [(1, 1), (2, 1), (1, 1)]),
                         1 + (100 + 1000000 + 100000000) + (1 + 100000000))
        self.assertEqual(way_price(LEFTS, RIGHTS, (1, 2, 3, 1, 1), PAIRS, [(1, 2), (1, 0), (1, 0), (1, 1)]),
                         2 + 5 + 3 + 2)

    def test_two_texts_without_rows(self):
        self.assertEqual(way_price([], [], PRICES, PAIRS, []), 0)
        self.assertEqual(way_price([], [], (GREATEST,) * 5, [], []), 0)

    def test_one_text_without_rows(self):
        self.assertEqual(way_price([["a"], ["b"]], [], PRICES, [], [(1, 0), (1, 0)]), 2 * 101010000)
        self.assertEqual(way_price([], [["x", "x"]], PRICES, [], [(0, 1)]), 202010000)

    def test_each_step_has_the_rows_in_their_order(self):
        lefts, rights = [["a"], ["b"], ["c"]], [["x"], ["y"], ["z"]]
        pairs = [("a", "x"), ("b", "y"), ("c", "z")]
        self.assertEqual(way_price(lefts, rights, PRICES, pairs, [(1, 1)] * 3), 3)
        self.assertEqual(way_price(lefts, rights[::-1], PRICES, pairs, [(1, 1)] * 3), 3 + 4 * 100000000)
        self.assertEqual(way_price(lefts, rights, PRICES, pairs, [(1, 0), (0, 1), (1, 1), (1, 1)]), 2 + 2 * 101010000)

    def test_a_pair_over_two_steps_is_none(self):
        self.assertEqual(way_price([["a"]], [["x"]], PRICES, [("a", "x")], [(1, 0), (0, 1)]), 2 * 101010000)

    def test_all_ways_of_small_texts(self):
        for many in range(len(LEFTS) + 1):
            for others in range(len(RIGHTS) + 1):
                lefts, rights = LEFTS[:many], RIGHTS[:others]
                ways = all_ways(many, others)
                self.assertNotEqual(ways, [])
                for steps in ways:
                    self.assertEqual(way_price(lefts, rights, PRICES, PAIRS, steps),
                                     plain_way_price(lefts, rights, PRICES, PAIRS, steps))

    def test_all_lists_of_steps_are_ways_or_refused(self):
        lefts, rights = LEFTS[:2], RIGHTS[:2]
        ways = all_ways(2, 2)
        tuples = STEPS + [(0, 0), (2, 2), (2, 0)]
        for many in range(5):
            for steps in itertools.product(tuples, repeat=many):
                if list(steps) in ways:
                    way_price(lefts, rights, PRICES, PAIRS, list(steps))
                else:
                    self.check_refused(lefts, rights, list(steps))

    def check_refused(self, lefts, rights, steps):
        with self.assertRaises(NoWay, msg=steps):
            way_price(lefts, rights, PRICES, PAIRS, steps)

    def test_a_tuple_that_is_no_step(self):
        for step in ((0, 0), (2, 2), (2, 0), (0, 2), (3, 1), (1, 3), (3, 0), (-1, 1), (1, -1), (-1, -1), (-1, 2),
                     (10 ** 30, 1), (1, -10 ** 30), (4, 3)):
            for many, others in ((0, 0), (1, 1), (2, 2), (4, 3), (2, 0), (0, 2), (3, 1), (1, 3)):
                self.check_refused(LEFTS[:many], RIGHTS[:others], [step])
            self.check_refused(LEFTS, RIGHTS, [(1, 1), (2, 1), (1, 1), step])
            self.check_refused(LEFTS, RIGHTS, [step, (1, 1), (2, 1), (1, 1)])

    def test_tuples_whose_sums_alone_are_right(self):
        self.check_refused(LEFTS[:1], RIGHTS[:1], [(2, 1), (-1, 0)])
        self.check_refused(LEFTS[:1], RIGHTS[:1], [(1, 1), (0, 0)])
        self.check_refused(LEFTS[:2], RIGHTS[:2], [(2, 2)])
        self.check_refused([], [], [(1, 0), (-1, 0)])
        self.check_refused([], [], [(0, 0)])

    def test_rows_are_left(self):
        for steps in ([], [(1, 1)], [(1, 1), (2, 1)], [(1, 1), (1, 1), (1, 1)], [(1, 0)] * 4, [(0, 1)] * 3,
                      [(2, 1), (1, 1), (1, 0)]):
            self.check_refused(LEFTS, RIGHTS, steps)
        self.check_refused([[]], [], [])
        self.check_refused([], [[]], [])

    def test_more_are_taken_than_there_are(self):
        for steps in ([(1, 1), (2, 1), (1, 1), (1, 0)], [(1, 1), (2, 1), (1, 1), (0, 1)], [(2, 1)] * 3,
                      [(1, 2)] * 2 + [(1, 0)] * 2, [(1, 1)] * 4, [(1, 0)] * 5 + [(0, 1)] * 3):
            self.check_refused(LEFTS, RIGHTS, steps)
        for step in STEPS:
            self.check_refused([], [], [step])

    def test_more_on_one_side_and_less_on_the_other(self):
        self.check_refused(LEFTS[:2], RIGHTS[:2], [(1, 2), (0, 1), (1, 0), (1, 0)])
        self.check_refused(LEFTS[:2], RIGHTS[:1], [(1, 2)])
        self.check_refused(LEFTS[:1], RIGHTS[:2], [(2, 1)])

    def test_what_takes_the_refusal(self):
        for taken in (NoWay, BesideError, ValueError):
            with self.assertRaises(taken):
                way_price(LEFTS, RIGHTS, PRICES, PAIRS, [])
        with self.assertRaises(NoWay) as caught:
            way_price(LEFTS, RIGHTS, PRICES, PAIRS, [])
        self.assertNotIsInstance(caught.exception, (NoQuestion, Twice, NoText, NoDeed))

    def test_what_is_handed_in_stays(self):
        steps = [(1, 1), (2, 1), (1, 1)]
        check_own(self, way_price, [list(row) for row in LEFTS], [list(row) for row in RIGHTS], PRICES, list(PAIRS),
                  steps)
        wrong = [(1, 1), (2, 2), (1, 1)]
        self.check_refused(LEFTS, RIGHTS, wrong)
        self.assertEqual(wrong, [(1, 1), (2, 2), (1, 1)])

    def test_great_sizes(self):
        chance = random.Random(24)
        words = sorted({word for rows in great_rows() for row in rows for word in row})
        pairs = [(chance.choice(words), chance.choice(words)) for number in range(20000)]
        known = set(pairs)
        for lefts in great_rows():
            for rights in great_rows():
                both = min(len(lefts), len(rights))
                steps = [(1, 1)] * both + [(1, 0)] * (len(lefts) - both) + [(0, 1)] * (len(rights) - both)
                with good_time(20):
                    told = way_price(lefts, rights, PRICES, pairs, steps)
                self.assertEqual(told, plain_way_price(lefts, rights, PRICES, known, steps))


if __name__ == "__main__":
    unittest.main()
