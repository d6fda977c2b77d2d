"""Points 25 to 27, and points 2 and 3 for them: paper, is_paper, cheapest."""

import copy
import itertools
import random
import unittest

from besidewords.papers import cheapest, is_paper, paper
from besidewords.prices import way_price
from tests.helper import STEPS, all_ways, check_own, good_time, great_rows, plain_price, plain_way_price

DESK = (1, 2, 3, 1, 1)
# Each price tells itself apart from the others in a sum.
APART = (1, 100, 10000, 1000000, 100000000)
NOUGHT = (0, 0, 0, 0, 0)
GREATEST = 10 ** 60

LEFTS = [["the", "mill"], ["by"], [], ["the", "race", "the"]]
RIGHTS = [["die", "muehle"], [], ["der", "bach", "am"]]
PAIRS = [("the", "die"), ("the", "der"), ("mill", "muehle"), ("race", "bach"), ("by", "am")]


def some_prices():
    """Prices that make each of the steps, and many ways, the cheapest."""
    return [DESK, APART, NOUGHT, (GREATEST,) * 5, (5, 1, 9, 0, 0), (9, 9, 1, 0, 0), (3, 0, 1, 0, 2), (0, 0, 0, 0, 1),
            (2, 3, 1, 0, 0), (GREATEST, GREATEST - 1, GREATEST // 2, 1, 0), (0, 0, 0, 1, 0), (1, 0, 0, 0, 0)]


def chance_texts(chance, most):
    """Two texts of at most so many rows, prices and pairs by a seeded source of chance."""
    lefts, rights = [[[chance.choice(words) for at in range(chance.randrange(4))]
                      for row in range(chance.randrange(most))] for words in ("ab", "xy")]
    pairs = [(chance.choice("ab"), chance.choice("xy")) for number in range(chance.randrange(4))]
    prices = chance.choice(some_prices() + [tuple(chance.randrange(4) for number in range(5))])
    return lefts, rights, prices, pairs


def great_beside():
    """Texts of the greatest sizes, two by two."""
    hundred, like, turns, lone, uneven = great_rows()
    return [(hundred, hundred), (hundred, uneven), (uneven, like), (turns, hundred), (like, turns), (lone, uneven)]


def plain_paper(lefts, rights, prices, pairs):
    """Point 25, word for word: all ways are walked one by one."""
    table = []
    for many in range(len(lefts) + 1):
        table.append([])
        for others in range(len(rights) + 1):
            told = [plain_way_price(lefts[:many], rights[:others], prices, pairs, steps)
                    for steps in all_ways(many, others)]
            table[-1].append((min(told), told.count(min(told))))
    return table


def from_behind(lefts, rights, prices, pairs):
    """The least price and how many ways have it, step by step from the last rows to the first ones."""
    known = {(len(lefts), len(rights)): (0, 1)}
    places = [(left, right) for left in range(len(lefts), -1, -1) for right in range(len(rights), -1, -1)]
    for left, right in places[1:]:
        found = []
        for many, others in STEPS:
            rest = known.get((left + many, right + others))
            if rest is not None:
                first = plain_price(lefts[left:left + many], rights[right:right + others], prices, pairs)
                found.append((first + rest[0], rest[1]))
        least = min(total for total, many in found)
        known[left, right] = (least, sum(many for total, many in found if total == least))
    return known[0, 0]


class Paper(unittest.TestCase):
    def test_ordinary(self):
        self.assertEqual(paper([["a"], ["b"]], [["x", "y"]], DESK, [("a", "x"), ("b", "y")]),
                         [[(0, 1), (7, 1)], [(5, 1), (3, 1)], [(10, 1), (2, 1)]])
        self.assertEqual(paper([["a"]], [["x"], ["x"]], DESK, [("a", "x")]), [[(0, 1), (5, 1), (10, 1)],
                                                                             [(5, 1), (1, 1), (3, 1)]])

    def test_two_texts_without_rows(self):
        for prices in some_prices():
            self.assertEqual(paper([], [], prices, PAIRS), [[(0, 1)]])
            self.assertEqual(paper([], [], prices, []), [[(0, 1)]])

    def test_one_text_without_rows(self):
        self.assertEqual(paper(LEFTS, [], DESK, PAIRS), [[(0, 1)], [(7, 1)], [(12, 1)], [(15, 1)], [(24, 1)]])
        self.assertEqual(paper([], RIGHTS, DESK, PAIRS), [[(0, 1), (7, 1), (10, 1), (19, 1)]])
        self.assertEqual(paper([[]], [], NOUGHT, []), [[(0, 1)], [(0, 1)]])

    def test_rows_without_words(self):
        self.assertEqual(paper([[]], [[]], DESK, []), [[(0, 1), (3, 1)], [(3, 1), (1, 1)]])
        self.assertEqual(paper([[], []], [[]], (2, 2, 0, 1, 1), []),
                         [[(0, 1), (0, 1)], [(0, 1), (0, 2)], [(0, 1), (0, 3)]])

    def test_where_prices_are_nought_all_ways_are_told(self):
        for many in range(5):
            for others in range(5):
                lefts, rights = [["a"]] * many, [["x", "y"]] * others
                table = paper(lefts, rights, NOUGHT, [])
                self.assertEqual(table, [[(0, len(all_ways(left, right))) for right in range(others + 1)]
                                         for left in range(many + 1)])
        self.assertEqual(paper([["a"]] * 2, [["x"]] * 2, NOUGHT, [])[2][2], (0, 17))

    def test_the_greatest_prices(self):
        prices = (GREATEST,) * 5
        self.assertEqual(paper([["a"]], [["x"]], prices, [("a", "x")])[1][1], (GREATEST, 1))
        self.assertEqual(paper([["a"]], [["x"]], prices, [])[1][1], (3 * GREATEST, 1))
        self.assertEqual(paper([["a", "b"]], [], prices, [])[1][0], (5 * GREATEST, 1))

    def test_prices_that_differ_in_the_last_of_sixty_figures(self):
        half = GREATEST // 2
        for one, told in ((GREATEST, (GREATEST, 3)), (GREATEST - 1, (GREATEST - 1, 1))):
            self.assertEqual(paper([["a"]], [["x"]], (one, 0, half, 0, 0), [])[1][1], told)
        self.assertEqual(paper([["a"]], [["x"]], (GREATEST, 0, half - 1, 0, 0), [])[1][1], (GREATEST - 2, 2))

    def test_each_of_the_steps_is_the_cheapest_somewhere(self):
        one, two, three = [["a"]], [["a"]] * 2, [["a"]] * 3
        self.assertEqual(paper(one, one, (1, 9, 9, 0, 0), [])[-1][-1], (1, 1))
        self.assertEqual(paper(one, two, (9, 1, 9, 0, 0), [])[-1][-1], (1, 1))
        self.assertEqual(paper(two, one, (9, 1, 9, 0, 0), [])[-1][-1], (1, 1))
        self.assertEqual(paper(one, one, (9, 9, 1, 0, 0), [])[-1][-1], (2, 2))
        self.assertEqual(paper(three, three, (9, 1, 9, 0, 0), [])[-1][-1], (2, 2))

    def test_rows_are_taken_in_their_order(self):
        pairs = [("a", "x"), ("b", "y"), ("c", "z")]
        lefts, rights = [["a"], ["b"], ["c"]], [["x"], ["y"], ["z"]]
        self.assertEqual(paper(lefts, rights, DESK, pairs)[3][3], (3, 1))
        self.assertEqual(paper(lefts, rights[::-1], DESK, pairs), plain_paper(lefts, rights[::-1], DESK, pairs))
        self.assertGreater(paper(lefts, rights[::-1], DESK, pairs)[3][3][0], 3)

    def test_small_texts_against_all_ways(self):
        for prices in some_prices():
            self.assertEqual(paper(LEFTS, RIGHTS, prices, PAIRS), plain_paper(LEFTS, RIGHTS, prices, PAIRS))
            self.assertEqual(paper(RIGHTS, LEFTS, prices, PAIRS), plain_paper(RIGHTS, LEFTS, prices, PAIRS))

    def test_texts_by_seeded_chance_against_all_ways(self):
        chance = random.Random(25)
        for number in range(150):
            handed = chance_texts(chance, 5)
            self.assertEqual(paper(*handed), plain_paper(*handed), handed)

    def test_number_i_then_number_j(self):
        table = paper(LEFTS, RIGHTS, APART, PAIRS)
        for left in range(len(LEFTS) + 1):
            for right in range(len(RIGHTS) + 1):
                self.assertEqual(paper(LEFTS[:left], RIGHTS[:right], APART, PAIRS)[-1][-1], table[left][right])

    def test_pairs_in_any_order_and_told_often(self):
        told = paper(LEFTS, RIGHTS, APART, PAIRS)
        for pairs in itertools.permutations(PAIRS):
            self.assertEqual(paper(LEFTS, RIGHTS, APART, list(pairs)), told)
            self.assertEqual(paper(LEFTS, RIGHTS, APART, list(pairs) * 3), told)

    def test_great_sizes(self):
        chance = random.Random(26)
        words = sorted({word for rows in great_rows() for row in rows for word in row})
        pairs = [(chance.choice(words), chance.choice(words)) for number in range(20000)] + [("a", "a"), ("x", "z")]
        known = set(pairs)
        for lefts, rights in great_beside():
            with good_time(20):
                told = paper(lefts, rights, DESK, pairs)
            self.assertEqual([len(row) for row in told], [len(rights) + 1] * (len(lefts) + 1))
            self.assertEqual(told[-1][-1], from_behind(lefts, rights, DESK, known))

    def test_many_ways_of_great_texts(self):
        rows = [["a"] * 3] * 100
        with good_time(20):
            self.assertEqual(paper(rows, rows, NOUGHT, [])[-1][-1], from_behind(rows, rows, NOUGHT, []))
        with good_time(20):
            told = paper(rows, rows, (GREATEST,) * 5, [("a", "a")])[-1][-1]
        self.assertEqual(told, (100 * GREATEST, 1))

    def test_told_lists_are_the_askers_own(self):
        for many, others in ((4, 3), (0, 0), (1, 0), (0, 2), (1, 1)):
            lefts, rights = [list(row) for row in LEFTS[:many]], [list(row) for row in RIGHTS[:others]]
            check_own(self, paper, lefts, rights, DESK, list(PAIRS))

    def test_no_two_rows_of_a_paper_are_one_list(self):
        table = paper([["a"]] * 5, [["x"]] * 2, NOUGHT, [])
        self.assertEqual(len({id(row) for row in table}), 6)


class IsPaper(unittest.TestCase):
    def texts(self):
        told = [(LEFTS, RIGHTS, DESK, PAIRS), (RIGHTS, LEFTS, APART, PAIRS), (LEFTS, RIGHTS, NOUGHT, []),
                (LEFTS, RIGHTS, (GREATEST,) * 5, PAIRS), (LEFTS, [], DESK, PAIRS), ([], RIGHTS, DESK, PAIRS),
                ([], [], DESK, []), ([[]], [[]], (1, 0, 0, 0, 0), [])]
        return [copy.deepcopy(handed) for handed in told]

    def test_of_the_paper(self):
        chance = random.Random(27)
        for handed in self.texts() + [chance_texts(chance, 5) for number in range(60)]:
            self.assertIs(is_paper(*handed, plain_paper(*handed)), True)
            self.assertIs(is_paper(*handed, paper(*handed)), True)

    def test_one_number_is_changed_at_each_place(self):
        for handed in self.texts():
            table = plain_paper(*handed)
            for left, row in enumerate(table):
                for right, (least, many) in enumerate(row):
                    for wrong in ((least + 1, many), (least - 1, many), (least, many + 1), (least, many - 1),
                                  (many, least) if many != least else (least, -many), (least + GREATEST, many),
                                  (least, 0), (least, -many), (least - 10 ** 100, many), (least, many + 10 ** 100)):
                        spoilt = copy.deepcopy(table)
                        spoilt[left][right] = wrong
                        self.assertIs(is_paper(*handed, spoilt), False, (handed, left, right, wrong))

    def test_one_place_is_wrong_and_all_behind_it_go_with_it(self):
        for handed in self.texts():
            for left in range(len(handed[0]) + 1):
                for right in range(len(handed[1]) + 1):
                    for by in ((1, 0), (-1, 0), (0, 1), (0, -1)):
                        table = self.going_with(handed, (left, right), by)
                        self.assertIs(is_paper(*handed, table), False, (handed, left, right, by))

    def going_with(self, handed, wrong, by):
        """A table with one wrong place, in which every other place goes with those ahead of it."""
        lefts, rights, prices, pairs = handed
        table = {}
        for left, right in itertools.product(range(len(lefts) + 1), range(len(rights) + 1)):
            found = []
            for many, others in STEPS:
                if (left - many, right - others) in table:
                    last = plain_price(lefts[left - many:left], rights[right - others:right], prices, pairs)
                    ahead = table[left - many, right - others]
                    found.append((ahead[0] + last, ahead[1]))
            least = min([total for total, ways in found], default=0)
            table[left, right] = (least, sum(ways for total, ways in found if total == least) if found else 1)
            if (left, right) == wrong:
                table[left, right] = (least + by[0], table[left, right][1] + by[1])
        return [[table[left, right] for right in range(len(rights) + 1)] for left in range(len(lefts) + 1)]

    def test_two_places_are_wrong(self):
        handed = (LEFTS[:2], RIGHTS[:2], DESK, PAIRS)
        table = plain_paper(*handed)
        places = list(itertools.product(range(3), range(3)))
        for one, other in itertools.combinations(places, 2):
            spoilt = copy.deepcopy(table)
            spoilt[one[0]][one[1]], spoilt[other[0]][other[1]] = table[other[0]][other[1]], table[one[0]][one[1]]
            self.assertIs(is_paper(*handed, spoilt), spoilt == table)

    def test_all_places_are_wrong_alike(self):
        for handed in self.texts():
            table = plain_paper(*handed)
            for change in (lambda least, many: (least + 1, many), lambda least, many: (least, 2 * many),
                           lambda least, many: (least, 0), lambda least, many: (0, many - 1),
                           lambda least, many: (-least - 1, -many)):
                self.assertIs(is_paper(*handed, [[change(*entry) for entry in row] for row in table]), False)

    def test_the_paper_of_something_else(self):
        handed = (LEFTS, RIGHTS, DESK, PAIRS)
        for other in ((LEFTS, RIGHTS, (1, 2, 3, 1, 2), PAIRS), (LEFTS, RIGHTS, (1, 2, 3, 2, 1), PAIRS),
                      (LEFTS, RIGHTS, (1, 2, 4, 1, 1), PAIRS), (LEFTS, RIGHTS, DESK, PAIRS[1:]),
                      (LEFTS, RIGHTS, DESK, []), (LEFTS[::-1], RIGHTS, DESK, PAIRS),
                      (LEFTS, RIGHTS[::-1], DESK, PAIRS)):
            self.assertIs(is_paper(*handed, plain_paper(*other)), False)
            self.assertIs(is_paper(*other, plain_paper(*handed)), False)

    def test_a_paper_turned_round(self):
        lefts, rights = LEFTS[:3], RIGHTS
        table = plain_paper(lefts, rights, DESK, PAIRS)
        turned = [[table[right][left] for right in range(4)] for left in range(4)]
        self.assertNotEqual(turned, table)
        self.assertIs(is_paper(lefts, rights, DESK, PAIRS, turned), False)

    def test_great_sizes(self):
        pairs = [("a", "a"), ("x", "z"), ("a", "b")]
        for lefts, rights in great_beside():
            table = paper(lefts, rights, DESK, pairs)
            with good_time(20):
                self.assertIs(is_paper(lefts, rights, DESK, pairs, table), True)
            least, many = table[-1][-1]
            table[-1][-1] = (least, many + 1)
            with good_time(20):
                self.assertIs(is_paper(lefts, rights, DESK, pairs, table), False)

    def test_what_is_handed_in_stays(self):
        for handed in self.texts():
            lefts, rights, prices, pairs = copy.deepcopy(handed)
            table = plain_paper(*handed)
            check_own(self, is_paper, lefts, rights, prices, pairs, table)
            table = plain_paper(*handed)
            table[-1][-1] = (-1, 1)
            check_own(self, is_paper, *copy.deepcopy(handed), table)


class Cheapest(unittest.TestCase):
    def check(self, *handed):
        lefts, rights, prices, pairs = handed
        steps = cheapest(*handed)
        self.assertIn(steps, all_ways(len(lefts), len(rights)))
        self.assertEqual(plain_way_price(*handed, steps), plain_paper(*handed)[-1][-1][0])

    def test_where_one_way_is_the_cheapest(self):
        self.assertEqual(cheapest([["a"], ["b"]], [["x", "y"]], DESK, [("a", "x"), ("b", "y")]), [(2, 1)])
        self.assertEqual(cheapest([["a", "b"]], [["x"], ["y"]], DESK, [("a", "x"), ("b", "y")]), [(1, 2)])
        self.assertEqual(cheapest([["a"]], [["x"]], DESK, [("a", "x")]), [(1, 1)])
        self.assertEqual(cheapest([["a"], ["b"]], [["y"]], (1, 2, 0, 1, 1), [("b", "y")]), [(1, 0), (1, 1)])
        self.assertEqual(cheapest([["b"]], [["x"], ["y"]], (1, 2, 0, 1, 1), [("b", "y")]), [(0, 1), (1, 1)])
        self.assertEqual(cheapest([["a", "b"], ["c"]], [["x"], ["y"], ["z"]], DESK,
                                  [("a", "x"), ("b", "y"), ("c", "z")]), [(1, 2), (1, 1)])
        self.assertEqual(cheapest([["c"], ["a", "b"]], [["z"], ["x"], ["y"]], DESK,
                                  [("a", "x"), ("b", "y"), ("c", "z")]), [(1, 1), (1, 2)])

    def test_texts_without_rows(self):
        for prices in some_prices():
            self.assertEqual(cheapest([], [], prices, []), [])
            self.assertEqual(cheapest(LEFTS, [], prices, PAIRS), [(1, 0)] * 4)
            self.assertEqual(cheapest([], RIGHTS, prices, PAIRS), [(0, 1)] * 3)

    def test_small_texts(self):
        for prices in some_prices():
            self.check(LEFTS, RIGHTS, prices, PAIRS)
            self.check(RIGHTS, LEFTS, prices, PAIRS)
            self.check(LEFTS, LEFTS, prices, [])

    def test_texts_by_seeded_chance(self):
        chance = random.Random(28)
        for number in range(200):
            self.check(*chance_texts(chance, 5))

    def test_the_same_whatever_the_order_of_the_pairs_and_however_often_they_are_told(self):
        for prices in some_prices():
            told = cheapest(LEFTS, RIGHTS, prices, PAIRS)
            for pairs in itertools.permutations(PAIRS):
                self.assertEqual(cheapest(LEFTS, RIGHTS, prices, list(pairs)), told)
                self.assertEqual(cheapest(LEFTS, RIGHTS, prices, list(pairs) + PAIRS[:3] * 2), told)

    def test_the_same_each_time_by_seeded_chance(self):
        chance = random.Random(29)
        for number in range(300):
            lefts, rights, prices, pairs = chance_texts(chance, 7)
            told = cheapest(lefts, rights, prices, pairs)
            chance_texts(chance, 3)
            others = pairs * chance.randrange(1, 4)
            chance.shuffle(others)
            again = cheapest(copy.deepcopy(lefts), copy.deepcopy(rights), tuple(list(prices)), others)
            self.assertEqual(again, told)

    def test_the_paper_shows_that_none_is_cheaper(self):
        pairs = [("a", "a"), ("x", "z"), ("a", "b")]
        for lefts, rights in great_beside():
            for prices in (DESK, (GREATEST, GREATEST - 1, GREATEST // 2, 7, 3)):
                with good_time(20):
                    steps = cheapest(lefts, rights, prices, pairs)
                self.assertEqual(way_price(lefts, rights, prices, pairs, steps),
                                 paper(lefts, rights, prices, pairs)[-1][-1][0])

    def test_told_lists_are_the_askers_own(self):
        for many, others in ((4, 3), (0, 0), (1, 0), (0, 2), (1, 1)):
            lefts, rights = [list(row) for row in LEFTS[:many]], [list(row) for row in RIGHTS[:others]]
            check_own(self, cheapest, lefts, rights, DESK, list(PAIRS))


if __name__ == "__main__":
    unittest.main()
