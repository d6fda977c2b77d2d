"""Points 32 and 33, and points 2 and 3 for them: Desk."""

import random
import unittest

from besidewords.beside import beside
from besidewords.desk import Desk
from besidewords.errors import NoDeed, NoQuestion, NoText, Twice
from besidewords.papers import cheapest
from besidewords.questions import read_question
from tests.helper import (
    all_ways, check_refused, good_time, great_rows, plain_book, plain_book_found, plain_book_numbers, plain_rows,
    plain_way_price)

FIRST_PRICES = (1, 2, 3, 1, 1)
MILL = "The mill by\nthe mill."
MUEHLE = "Die Muehle\nbei der Muehle"
SIXTY = "9" * 60


def told(rows):
    """A desk, and its answers to these rows."""
    desk = Desk()
    return desk, [desk.say(row) for row in rows]


def desk_of(rows):
    return told(rows)[0]


def mill_desk():
    return desk_of([f"put left mill\n{MILL}", f"put right mill\n{MUEHLE}", "put left only\na", "put right other\nb",
                    "goes mill muehle", "goes the die"])


# What shows whether a desk is as before: all in its books, its names (also of texts without words), prices and pairs.
ASKED = ["ask left ..1", "ask right ..1", "again left", "again right", "lay mill", "beside mill ..1 // muehle",
         "goes mill muehle", "goes a b", "take left only", "take right other", "take left mill", "take right mill",
         "put left a\n", "put right a\n", "put left m\nw w\nv", "put right m\nv\nw w", "lay m", "beside m w // v"]


class Books(unittest.TestCase):
    def check(self, rows, answers):
        self.assertEqual(told(rows)[1], answers)

    def test_put(self):
        self.check(["put left one\nb d\nf", "put left two\na c e g", "put right one\nThe MILL!", "put left 3\nB"],
                   ["put 0 1 2", "put 0 2 4 6", "put 0 1", "put 1"])

    def test_put_without_words(self):
        self.check(["put left a\n", "put left b\n\n", "put right a\n ", "put left c\n?!\n-", "take left a"],
                   ["put", "put", "put", "put", "took"])

    def test_all_behind_the_first_line_feed_is_the_text(self):
        self.check(["put left a\nput left b\nx", "ask left ?"],
                   ["put 0 1 2 3", "a:0:0-1 a:0:1-2 a:0:2-3 a:1:0-1"])
        self.check(["put left a\n\n two  words \n\n", "ask left ? ?"], ["put 0 1", "a:0:0-2"])

    def test_take(self):
        self.check(["put left one\nb d\nf", "put left two\na c e g", "take left two", "take left one", "ask left ..0"],
                   ["put 0 1 2", "put 0 2 4 6", "took 0 2 4 6", "took 0 1 2", "nothing"])

    def test_the_two_books_are_apart(self):
        desk = desk_of(["put left n\na", "put right n\nb"])
        self.assertEqual([desk.say("ask left ?"), desk.say("ask right ?"), desk.say("ask left b")],
                         ["n:0:0-1", "n:0:0-1", "nothing"])
        self.assertEqual(desk.say("take left n"), "took 0")
        check_refused(self, NoText, desk.say, "take left n")
        self.assertEqual(desk.say("ask right b"), "n:0:0-1")

    def test_two_desks_are_apart(self):
        one, other = Desk(), Desk()
        one.say("put left n\na")
        one.say("goes a b")
        one.say("price 0 0 0 0 0")
        self.assertEqual(other.say("put left n\nb"), "put 0")
        self.assertEqual(other.say("goes c d"), "pairs 1")
        other.say("put right n\nx")
        one.say("put right n\nx")
        self.assertEqual([one.say("lay n"), other.say("lay n")], ["0 of 3", "3 of 1"])

    def test_names_of_one_and_of_twelve_signs(self):
        for name in ("a", "0", "z9", "abcdefghijkl", "000000000000"):
            self.check([f"put left {name}\nw", "ask left w", f"take left {name}"],
                       ["put 0", f"{name}:0:0-1", "took 0"])

    def test_ask(self):
        desk = mill_desk()
        self.assertEqual(desk.say("ask left the"), "mill:0:0-1 mill:1:0-1")
        self.assertEqual(desk.say("ask left the mill"), "mill:0:0-2 mill:1:0-2")
        self.assertEqual(desk.say("ask left the ..1 by | a"), "mill:0:0-3 only:0:0-1")
        self.assertEqual(desk.say("ask left ( m* | *y )"), "mill:0:1-2 mill:0:2-3 mill:1:1-2")
        self.assertEqual(desk.say("ask right ..0"), "mill:0:0-0 mill:0:1-1 mill:0:2-2 mill:1:0-0 mill:1:1-1 "
                                                    "mill:1:2-2 mill:1:3-3 other:0:0-0 other:0:1-1")

    def test_ask_in_vain(self):
        self.check(["ask left a", "ask right ..0", "put left n\na", "ask left b", "put right n\n", "ask right ..9"],
                   ["nothing", "nothing", "put 0", "nothing", "put", "nothing"])

    def test_ask_in_great_letters_and_with_blanks_more(self):
        desk = mill_desk()
        for row in ("ask left THE Mill", "ask left   the   mill  ", "ask left  ( tHe )  MILL", "ask left the  mill "):
            self.assertEqual(desk.say(row), "mill:0:0-2 mill:1:0-2")

    def test_places_are_told_rising(self):
        desk = desk_of(["put left b\nw", "put left a\nw w", "put left 10\nx\nw", "put left 9\n" + "x\n" * 10 + "w"])
        self.assertEqual(desk.say("ask left w"), "10:1:0-1 9:10:0-1 a:0:0-1 a:0:1-2 b:0:0-1")

    def test_again(self):
        self.check(["put left n\nthe mill of\nof\nthe mill", "put left m\nof", "again left", "again right"],
                   ["put 0 1 2 3 4 5", "put 2", "3 of; 2 the mill", "nothing"])
        self.check(["put right n\na a a", "again right", "again left"],
                   ["put 0 1 2", "3 a; 2 a a", "nothing"])
        self.check(["again left", "put left n\na", "again left", "put left m\nb\na", "again left"],
                   ["nothing", "put 0", "nothing", "put 0 2", "2 a"])

    def test_again_behind_a_text_taken_out(self):
        desk = desk_of(["put left n\nthe mill", "put left m\nthe mill", "put left k\nmill"])
        self.assertEqual(desk.say("again left"), "3 mill; 2 the mill")
        desk.say("take left n")
        self.assertEqual(desk.say("again left"), "2 mill")
        desk.say("take left k")
        self.assertEqual(desk.say("again left"), "nothing")


class Laying(unittest.TestCase):
    def check(self, rows, answers):
        self.assertEqual(told(rows)[1], answers)

    def test_pairs_are_counted_once(self):
        self.check(["goes a b", "goes b a", "goes a b", "goes a a", "goes a c", "goes a b", "goes 1 2nd"],
                   ["pairs 1", "pairs 2", "pairs 2", "pairs 3", "pairs 4", "pairs 4", "pairs 5"])
        long = "w" * 500
        self.check([f"goes {long} {long}"], ["pairs 1"])

    def test_lay(self):
        desk = desk_of(["put left n\na\nb", "put right n\nx y"])
        self.assertEqual(desk.say("lay n"), "6 of 1")
        desk.say("goes a x")
        self.assertEqual(desk.say("lay n"), "4 of 1")
        desk.say("goes b y")
        self.assertEqual(desk.say("lay n"), "2 of 1")
        desk.say("price 0 0 0 0 0")
        self.assertEqual(desk.say("lay n"), "0 of 6")

    def test_a_pair_has_a_left_word_and_a_right_word(self):
        for pair, answer in (("a x", "1 of 1"), ("x a", "3 of 1")):
            self.assertEqual(desk_of(["put left n\na", "put right n\nx", f"goes {pair}"]).say("lay n"), answer)

    def test_prices_at_first_and_each_by_its_place(self):
        desk = desk_of(["put left n\na", "put right n\nx", "put left m\na a", "put right m\nx\nx", "put left k\na a a",
                        "put right k\n"])
        self.assertEqual([desk.say("lay n"), desk.say("lay m"), desk.say("lay k")], ["3 of 1", "6 of 1", "9 of 1"])
        self.assertEqual(desk.say("price 1 100 10000 1000000 100000000"), "ok")
        self.assertEqual([desk.say("lay n"), desk.say("lay m"), desk.say("lay k")],
                         ["200000001 of 1", "400000100 of 1", "303010000 of 1"])

    def test_texts_without_rows(self):
        self.check(["put left n\n", "put right n\n", "lay n", "beside n ..0 // ..0", "take left n", "put left n\na b",
                    "lay n", "beside n a // ..0"],
                   ["put", "put", "0 of 1", "nothing", "took", "put 0 1", "7 of 1", "nothing"])

    def test_prices_of_sixty_figures(self):
        desk = desk_of(["put left n\na", "put right n\nx y"])
        self.assertEqual(desk.say(f"price {SIXTY} {SIXTY} {SIXTY} {SIXTY} {SIXTY}"), "ok")
        self.assertEqual(desk.say("lay n"), f"{5 * int(SIXTY)} of 1")
        desk.say(f"price {SIXTY} 0 1 0 0")
        self.assertEqual(desk.say("lay n"), "2 of 2")
        desk.say(f"price 1{'0' * 59} 0 5{'0' * 58} 0 0")
        self.assertEqual(desk.say("lay n"), f"1{'0' * 59} of 3")
        desk.say(f"price {'9' * 59} 0 5{'0' * 58} 0 0")
        self.assertEqual(desk.say("lay n"), f"{'9' * 59} of 1")

    def test_numbers_that_may_be_written(self):
        desk = Desk()
        for number in ("0", "1", "9", "10", "100", "1" * 60, "1" + "0" * 59, SIXTY):
            self.assertEqual(desk.say(f"price {number} 0 0 0 {number}"), "ok")

    def test_beside(self):
        desk = mill_desk()
        self.assertEqual(desk.say("beside mill mill // muehle"), "0:1-2 1:1-2")
        self.assertEqual(desk.say("beside mill the ..1 // die"), "0:0-1 0:0-2")
        self.assertEqual(desk.say("beside mill mill | by // der muehle"), "1:1-2")
        self.assertEqual(desk.say("beside mill by // der"), "nothing")
        self.assertEqual(desk.say("beside mill ..0 // die"), "0:0-0 0:1-1 0:2-2 0:3-3")
        self.assertEqual(desk.say("beside mill the // ..0"), "0:0-1 1:0-1")

    def test_beside_in_great_letters_and_with_blanks_more(self):
        desk = mill_desk()
        for row in ("beside mill MILL // Muehle", "beside mill   mill  //  muehle  ", "beside mill mill // ( MUEHLE )"):
            self.assertEqual(desk.say(row), "0:1-2 1:1-2")

    def test_beside_by_the_cheapest_way(self):
        desk = desk_of(["put left n\na\nb", "put right n\ny", "goes b y"])
        self.assertEqual(desk.say("beside n ? // y"), "0:0-1 1:0-1")
        desk.say("price 1 2 0 1 1")
        self.assertEqual(desk.say("beside n ? // y"), "1:0-1")
        desk.say("price 9 9 0 0 0")
        self.assertEqual(desk.say("beside n ? // y"), "nothing")

    def test_a_pair_changes_the_way(self):
        desk = desk_of(["put left n\na\nb", "put right n\ny", "price 1 2 0 1 2", "goes b y"])
        self.assertEqual(desk.say("beside n ? // y"), "1:0-1")
        desk = desk_of(["put left n\na\nb", "put right n\ny", "price 1 2 0 1 2", "goes a y"])
        self.assertEqual(desk.say("beside n ? // y"), "0:0-1")

    def test_behind_a_text_taken_out_and_another_put_by_its_name(self):
        desk = desk_of(["put left n\na", "put right n\nx", "goes a x"])
        self.assertEqual([desk.say("lay n"), desk.say("beside n a // x")], ["1 of 1", "0:0-1"])
        desk.say("take left n")
        for row in ("lay n", "beside n a // x"):
            check_refused(self, NoText, desk.say, row)
        desk.say("put left n\nb\nc a")
        self.assertEqual([desk.say("lay n"), desk.say("beside n a // x")], ["6 of 1", "1:1-2"])
        desk.say("take right n")
        for row in ("lay n", "beside n a // x"):
            check_refused(self, NoText, desk.say, row)
        desk.say("put right n\ny z")
        self.assertEqual([desk.say("lay n"), desk.say("beside n a // x"), desk.say("beside n a // y")],
                         ["8 of 1", "nothing", "1:1-2"])

    def test_only_the_texts_of_the_name_are_laid(self):
        desk = desk_of(["put left n\na", "put right n\nx", "put left m\na a a\nb", "put right m\nx\ny"])
        self.assertEqual([desk.say("lay n"), desk.say("beside n a // x"), desk.say("beside n b // y")],
                         ["3 of 1", "0:0-1", "nothing"])


class Refusals(unittest.TestCase):
    def check(self, refusal, row):
        """That the row is refused so, and the desk answers as before."""
        desk, untold = mill_desk(), mill_desk()
        error = check_refused(self, refusal, desk.say, row)
        self.assertEqual([desk.say(asked) for asked in ASKED], [untold.say(asked) for asked in ASKED], row)
        return error

    def check_deeds(self, rows):
        for row in rows:
            self.check(NoDeed, row)

    def test_no_deed(self):
        self.check_deeds(["", " ", "\n", "puts left a\nb", "PUT left a\nb", "Take left only", "tell left", "say", "put",
                          "take", "ask", "again", "goes", "price", "lay", "beside", "put ", "take ", "ask ", "again ",
                          "goes ", "price ", "lay ", "beside ", " lay mill", "\nlay mill", "lay\nmill", "lay:mill",
                          "ok", "nothing", "left", "took left only", "count left", "neighbours left a", "lay-mill"])

    def test_put(self):
        self.check_deeds(["put left a", "put left", "put left a b", "put left\na", "put left \nb", "put a\nb", "put\na",
                          "put left a b\nc", "put  left a\nb", "put left  a\nb", "put left a \nb", " put left a\nb",
                          "put left, a\nb", "put Left a\nb", "put middle a\nb", "put lef a\nb", "put leftright a\nb",
                          "put left,right a\nb", "put  a\nb", "put a left\nb"])

    def test_take(self):
        self.check_deeds(["take left", "take only", "take left ", "take left only ", "take left only\n",
                          "take  left only", "take left  only", "take left only a", "take LEFT only", "take both only",
                          "take left only\na", "take only left", "take left\nonly"])

    def test_ask(self):
        self.check_deeds(["ask left", "ask right", "ask", "ask  left a", "ask a", "ask the mill", "ask LEFT a",
                          "ask left\na", "ask\nleft a", "ask both a", "ask  a", "ask leftright a", "ask left\n a"])

    def test_again(self):
        self.check_deeds(["again", "again ", "again left ", "again  left", "again left right", "again left\n",
                          "again Left", "again mill", "again left mill", "again ri"])

    def test_goes(self):
        self.check_deeds(["goes", "goes a", "goes a b c", "goes a  b", "goes  a b", "goes a b ", "goes A b", "goes a B",
                          "goes a-b c", "goes a b.", "goes a b\n", "goes a\nb", "goes a* b", "goes  ", "goes a ",
                          "goes  b", "goes a ?", "goes a\n b"])

    def test_price(self):
        self.check_deeds(["price", "price 1 2 3 4", "price 1 2 3 4 5 6", "price 1 2 3 4 5 ", "price  1 2 3 4 5",
                          "price 1 2  4 5", "price 1 2 3 4 ", "price 1 2 3 4 5\n", "price 1,2,3,4,5"])
        for wrong in ("-1", "+1", "00", "01", "007", "1.0", "a", "1a", "0x1", "1_0", "1e3", "", "9" * 61,
                      "1" + "0" * 60, "0" * 60, "0" + "1" * 59, "True", "-0", "1\n", "\n1"):
            for at in range(5):
                numbers = ["7"] * 5
                numbers[at] = wrong
                self.check(NoDeed, "price " + " ".join(numbers))

    def test_lay(self):
        self.check_deeds(["lay", "lay ", "lay mill ", "lay  mill", "lay mill mill", "lay left mill", "lay mill\n"])

    def test_beside(self):
        self.check_deeds(["beside", "beside mill", "beside mill ", "beside mill mill", "beside mill mill muehle",
                          "beside mill mill //muehle", "beside mill mill// muehle", "beside mill mill //",
                          "beside mill //", "beside mill // muehle", "beside mill mill / / muehle",
                          "beside mill mill //\nmuehle", "beside // mill // muehle", "beside  mill mill // muehle",
                          "beside mill mill\n// muehle", "beside mill // ", "beside  // ", "beside // muehle",
                          "beside mill\nmill // b",
                          "beside left mill mill muehle", "beside mill mill /// muehle"])

    def test_names(self):
        for name in ("", "A", "Mill", "mill!", "a-b", "a_b", "abcdefghijklm", "0" * 13, "a" * 300, "mill.", ":", "*"):
            self.check_deeds([f"put left {name}\nb", f"put right {name}\nb", f"take left {name}", f"take right {name}",
                              f"lay {name}", f"beside {name} a // b"])

    def test_what_is_no_text(self):
        for row in (None, 0, 7, True, [], ["lay mill"], ("lay", "mill"), {}, b"lay mill", Desk(), {"lay": "mill"}):
            self.check(NoDeed, row)

    def test_questions(self):
        for text, at in (("", 0), ("   ", 0), ("the |", 2), ("| the", 0), ("the ( mill", 3), ("the )", 1),
                         ("the & mill", 1), ("the mill.", 1), ("( " * 21 + "a" + " )" * 21, 20), ("..10", 0),
                         ("a b\nc", 1), ("a b\n", 1), ("a // b", 1), ("  the   ..  mill", 1), ("THE the,", 1),
                         ("\n", 0), ("( )", 1)):
            for side in ("left", "right"):
                self.assertEqual(self.check(NoQuestion, f"ask {side} {text}").at, at, text)

    def test_questions_of_a_beside(self):
        for text, at in (("", 0), ("   ", 0), ("the |", 2), ("| the", 0), ("the ( mill", 3), ("the )", 1),
                         ("the & mill", 1), ("( " * 21 + "a" + " )" * 21, 20), ("a b\nc", 1), ("  the   ..  mill", 1)):
            self.assertEqual(self.check(NoQuestion, f"beside mill {text} // muehle").at, at, text)
            self.assertEqual(self.check(NoQuestion, f"beside mill mill | the by // {text}").at, at, text)

    def test_the_first_parting_sign_of_a_beside(self):
        self.assertEqual(self.check(NoQuestion, "beside mill mill // the muehle // die").at, 2)
        self.assertEqual(self.check(NoQuestion, "beside mill mill // // muehle").at, 0)
        self.assertEqual(self.check(NoQuestion, "beside mill // mill // muehle").at, 0)
        self.assertEqual(self.check(NoQuestion, "beside mill a b c|d // muehle // e").at, 2)
        self.assertEqual(self.check(NoQuestion, "beside mill  // muehle").at, 0)
        self.assertEqual(self.check(NoQuestion, "beside mill mill // ").at, 0)

    def test_twenty_brackets_may_be_there(self):
        text = "( " * 20 + "mill" + " )" * 20
        self.assertEqual(mill_desk().say("ask left " + text), "mill:0:1-2 mill:1:1-2")

    def test_a_text_that_is_wanting(self):
        for row in ("take left other", "take right only", "take left m", "take left abcdefghijkl", "lay only",
                    "lay other", "lay m", "beside only a // b", "beside other a // b", "beside m a // b",
                    "beside m ..0 // ..0"):
            self.check(NoText, row)
        for row in ("take left n", "take right n", "lay n", "beside n a // b"):
            check_refused(self, NoText, Desk().say, row)

    def test_a_text_that_is_there_already(self):
        for row in ("put left mill\na", "put right mill\n", "put left only\na", "put right other\nzz zz"):
            self.check(Twice, row)
        desk = desk_of(["put left n\n"])
        check_refused(self, Twice, desk.say, "put left n\na")
        self.assertEqual(desk.say("ask left ..0"), "nothing")

    def test_no_deed_ahead_of_no_question(self):
        self.check_deeds(["ask both |", "ask both ", "ask left\n|", "beside Mill | // )", "beside mill | / )",
                          "beside mill |", "beside abcdefghijklm  // ", "beside  | // |"])

    def test_no_deed_ahead_of_no_text_and_twice(self):
        self.check_deeds(["put left mill", "put both mill\na", "take both m", "take left m ", "lay m m", "beside m a",
                          "beside M a // b", "put left mill a\nb"])

    def test_the_first_question_ahead_of_the_second(self):
        self.assertEqual(self.check(NoQuestion, "beside mill a b | // )").at, 3)
        self.assertEqual(self.check(NoQuestion, "beside mill ) // a b |").at, 0)
        self.assertEqual(self.check(NoQuestion, "beside mill a // a b |").at, 3)

    def test_no_question_ahead_of_no_text(self):
        for name in ("m", "only", "other"):
            self.assertEqual(self.check(NoQuestion, f"beside {name} a | // b").at, 2)
            self.assertEqual(self.check(NoQuestion, f"beside {name} a // b c )").at, 2)

    def test_a_refused_row_leaves_prices_and_pairs(self):
        desk = desk_of(["put left n\na", "put right n\nx", "price 5 5 9 0 1", "goes b y"])
        for row in ("price 0 0 0 0 x", "price 0 0 0 0", "goes a X", "goes a x y", "price 0 0 0 0 00"):
            check_refused(self, NoDeed, desk.say, row)
            self.assertEqual(desk.say("lay n"), "7 of 1")
            self.assertEqual(desk.say("goes b y"), "pairs 1")


class PlainDesk:
    """Point 32 by the plain readings alone, but for which of the cheapest ways is told."""

    def __init__(self):
        self.books = {"left": {}, "right": {}}
        self.prices = FIRST_PRICES
        self.pairs = set()

    def put(self, side, name, text):
        self.books[side][name] = text
        return " ".join(["put"] + [str(number) for number in plain_book_numbers(self.books[side], name)])

    def take(self, side, name):
        numbers = plain_book_numbers(self.books[side], name)
        self.books[side].pop(name)
        return " ".join(["took"] + [str(number) for number in numbers])

    def ask(self, side, text):
        found = plain_book_found(self.books[side], read_question(text))
        return " ".join("%s:%d:%d-%d" % met for met in found) or "nothing"

    def again(self, side):
        full = plain_book(self.books[side])["full_stretches"]
        return "; ".join(" ".join((str(len(places)),) + stretch) for stretch, places in full) or "nothing"

    def rows(self, name):
        return plain_rows(self.books["left"][name]), plain_rows(self.books["right"][name])

    def lay(self, name):
        lefts, rights = self.rows(name)
        totals = [plain_way_price(lefts, rights, self.prices, self.pairs, steps)
                  for steps in all_ways(len(lefts), len(rights))]
        return "%d of %d" % (min(totals), totals.count(min(totals)))

    def beside(self, name, one, other):
        lefts, rights = self.rows(name)
        steps = cheapest(lefts, rights, self.prices, sorted(self.pairs))
        return " ".join("%d:%d-%d" % met for met in beside(lefts, rights, steps, read_question(one),
                                                           read_question(other))) or "nothing"


class Chance(unittest.TestCase):
    QUESTIONS = ["the", "a ..1", "..0", "? b | the", "( a | b ) *e", "b* a"]

    def test_rows_by_seeded_chance(self):
        chance = random.Random(32)
        for number in range(15):
            desk, plain = Desk(), PlainDesk()
            for row in range(80):
                self.one_row(chance, desk, plain)

    def one_row(self, chance, desk, plain):
        deed = chance.choice(["put"] * 3 + ["take", "ask", "again", "goes", "price", "lay", "lay", "beside", "beside"])
        side, name = chance.choice(["left", "right"]), chance.choice(["n", "m", "10", "9"])
        one, other = chance.choice(self.QUESTIONS), chance.choice(self.QUESTIONS)
        there = [side for side in ("left", "right") if name in plain.books[side]]
        if deed == "put":
            text = "".join(chance.choice(["a ", "b ", "the ", "\n"]) for sign in range(7))
            self.check(desk, f"put {side} {name}\n{text}", Twice if side in there else None,
                       lambda: plain.put(side, name, text))
        elif deed == "take":
            self.check(desk, f"take {side} {name}", None if side in there else NoText, lambda: plain.take(side, name))
        elif deed == "ask":
            self.check(desk, f"ask {side} {one}", None, lambda: plain.ask(side, one))
        elif deed == "again":
            self.check(desk, f"again {side}", None, lambda: plain.again(side))
        elif deed == "goes":
            pair = (chance.choice(["a", "b", "the"]), chance.choice(["a", "b", "the"]))
            plain.pairs.add(pair)
            self.check(desk, "goes %s %s" % pair, None, lambda: "pairs " + str(len(plain.pairs)))
        elif deed == "price":
            plain.prices = tuple(chance.choice([0, 1, 2, 5, 10 ** 59]) for price in range(5))
            self.check(desk, "price %d %d %d %d %d" % plain.prices, None, lambda: "ok")
        elif deed == "lay":
            self.check(desk, f"lay {name}", None if len(there) == 2 else NoText, lambda: plain.lay(name))
        else:
            self.check(desk, f"beside {name} {one} // {other}", None if len(there) == 2 else NoText,
                       lambda: plain.beside(name, one, other))

    def check(self, desk, row, refusal, answer):
        if refusal is not None:
            check_refused(self, refusal, desk.say, row)
        else:
            self.assertEqual(desk.say(row), answer(), row)


class Sizes(unittest.TestCase):
    def test_sixty_texts_with_three_hundred_words(self):
        desk = Desk()
        with good_time(60):
            for number in range(60):
                for side in ("left", "right"):
                    answer = desk.say(f"put {side} n{number}\na b\na\na b")
            self.assertEqual(len(answer.split()), 6)
            self.assertEqual(desk.say("again left"), "180 a; 120 a b")
            self.assertEqual(len(desk.say("ask left a | a b").split()), 300)
            self.assertEqual(desk.say("lay n7"), "13 of 1")
            self.assertEqual(desk.say("beside n7 a b // b"), "0:0-2 2:0-2")
            for number in range(60):
                self.assertEqual(len(desk.say(f"take left n{number}").split()), 6)
        self.assertEqual(desk.say("ask left ..0"), "nothing")

    def test_a_hundred_rows_beside_a_hundred(self):
        desk = desk_of(["put left n\n" + "a b c\n" * 100, "put right n\n" + "x y z\n" * 100, "goes a x", "goes b y"])
        with good_time(60):
            self.assertEqual(desk.say("lay n"), "300 of 1")
            self.assertEqual(desk.say("beside n a // z"), " ".join(f"{row}:0-1" for row in range(100)))
            desk.say("price 0 0 0 0 0")
            many = desk.say("lay n").split(" of ")
        self.assertEqual(many[0], "0")
        self.assertGreater(len(many[1]), 60)

    def test_rows_of_a_hundred_words_and_long_questions(self):
        text = "\n".join(" ".join(row) for row in great_rows()[1])
        desk = desk_of([f"put left n\n{text}", f"put right n\n{text}"])
        question = " ".join(["( ..9 | a* ..9 )"] * 42)
        with good_time(60):
            self.assertEqual(len(desk.say("ask left " + question).split()), 3 * 101 * 51)
            self.assertEqual(len(desk.say(f"beside n {question} // {question}").split()), 3 * 101 * 51)
            self.assertEqual(desk.say("again right").split("; ")[0], "300 a")

    def test_a_text_of_ten_thousand_signs(self):
        with good_time(60):
            self.assertEqual(desk_of(["put left n\n" + "-" * 9999 + "w"]).say("ask left w"), "n:0:0-1")


if __name__ == "__main__":
    unittest.main()
