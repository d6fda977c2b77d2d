"""Points 28 and 29, and points 2 and 3 for them: Book."""

import copy
import random
import unittest

from besidewords.again import full_stretches
from besidewords.asking import all_met
from besidewords.book import Book
from besidewords.errors import NoText, Twice
from besidewords.questions import read_question
from tests.helper import (
    check_refused, good_time, great_rows, plain_book, plain_book_found, plain_book_numbers, plain_ends, plain_shares,
    spoil)

QUESTIONS = ["the", "the mill", "..0", "..1 by | *l", "?", "( a | b ) ..2", "a a", "cat"]
WORDLESS = ["", "\n", " ", "\n\n", "?!\n -"]


def book_of(texts):
    book = Book()
    for name, text in texts.items():
        book.put(name, text)
    return book


def all_told(book):
    """All that a book tells, but what it is asked for by a name that isn't there."""
    return {"names": book.names(), "rows": {name: book.rows(name) for name in book.names()}, "ends": book.ends(),
            "shares": book.shares(), "full_stretches": book.full_stretches()}


def all_found(book):
    return [book.found(read_question(text)) for text in QUESTIONS]


class Putting(unittest.TestCase):
    def check(self, book, texts):
        self.assertEqual(all_told(book), plain_book(texts), texts)
        for text in QUESTIONS:
            question = read_question(text)
            self.assertEqual(book.found(question), plain_book_found(texts, question), (text, texts))

    def test_a_new_book(self):
        book = Book()
        self.assertEqual((book.names(), book.ends(), book.shares(), book.full_stretches()), ([], [], [], []))
        self.assertEqual([book.found(read_question(text)) for text in ("..0", "a", "?")], [[], [], []])

    def test_numbers_of_a_text_that_is_put(self):
        book = Book()
        self.assertEqual(book.put("one", "b d\nf"), [0, 1, 2])
        self.assertEqual(book.put("two", "a c e g"), [0, 2, 4, 6])
        self.assertEqual(book.put("three", "Zz, zz!"), [7, 8])
        self.assertEqual(book.put("four", "0"), [0])
        self.check(book, {"one": "b d\nf", "two": "a c e g", "three": "Zz, zz!", "four": "0"})

    def test_numbers_of_a_text_that_is_taken(self):
        book = book_of({"one": "b d\nf", "two": "a c e g", "three": "zz"})
        self.assertEqual(book.take("two"), [0, 2, 4, 6])
        self.assertEqual(book.take("three"), [3])
        self.assertEqual(book.take("one"), [0, 1, 2])
        self.check(book, {})

    def test_the_numbers_rise_though_the_places_do_not(self):
        book = book_of({"m": "c"})
        self.assertEqual(book.put("n", "d b\na"), [0, 1, 3])
        self.assertEqual(book.ends(), [("n", 1, 0), ("n", 0, 1), ("m", 0, 0), ("n", 0, 0)])
        self.assertEqual(book.take("n"), [0, 1, 3])

    def test_a_text_without_words(self):
        for text in WORDLESS:
            book = book_of({"m": "a b"})
            before = all_told(book)
            self.assertEqual(book.put("n", text), [])
            self.assertEqual(book.names(), ["m", "n"])
            self.assertEqual(book.rows("n"), [])
            self.assertEqual(book.ends(), before["ends"])
            self.check(book, {"m": "a b", "n": text})
            check_refused(self, Twice, book.put, "n", "a")
            self.assertEqual(book.take("n"), [])
            self.assertEqual(all_told(book), before)
            check_refused(self, NoText, book.take, "n")

    def test_a_name_that_is_there(self):
        texts = {"m": "a b\na", "n": "", "k": "c a b"}
        book = book_of(texts)
        for name in texts:
            for text in ("a b\na", "zz", ""):
                before = (all_told(book), all_found(book))
                check_refused(self, Twice, book.put, name, text)
                self.assertEqual((all_told(book), all_found(book)), before)
        self.check(book, texts)

    def test_a_name_that_is_not_there(self):
        texts = {"m": "a b\na", "n": "", "k": "c a b"}
        for book, known in ((Book(), {}), (book_of(texts), texts)):
            for name in ("a", "M", "mm", " m", "m ", "b", "0", "left"):
                check_refused(self, NoText, book.take, name)
                check_refused(self, NoText, book.rows, name)
                self.check(book, known)

    def test_a_name_that_was_taken_out(self):
        book = book_of({"m": "a b", "n": "c"})
        book.take("m")
        check_refused(self, NoText, book.take, "m")
        check_refused(self, NoText, book.rows, "m")
        self.check(book, {"n": "c"})
        self.assertEqual(book.put("m", "d a\nc"), [0, 1, 3])
        self.check(book, {"n": "c", "m": "d a\nc"})

    def test_one_text_by_two_names(self):
        book = book_of({"m": "the mill"})
        self.assertEqual(book.put("n", "the mill"), [1, 3])
        self.check(book, {"m": "the mill", "n": "the mill"})
        self.assertEqual(book.take("m"), [0, 2])
        self.check(book, {"n": "the mill"})

    def test_texts_are_cut_as_all_texts_are(self):
        book = book_of({"n": "The mill-race,\n\n...\n2nd ROW"})
        self.assertEqual(book.rows("n"), [["the", "mill", "race"], ["2nd", "row"]])

    def test_two_books(self):
        one, other = Book(), Book()
        one.put("m", "a")
        self.assertEqual(other.names(), [])
        other.put("m", "b b")
        self.check(one, {"m": "a"})
        self.check(other, {"m": "b b"})

    def test_any_puts_and_takes_by_seeded_chance(self):
        chance = random.Random(29)
        names = ["m", "n", "a", "ab", "B", "10", "9", "x y", "~", "a\nb", "a:0"]
        for number in range(25):
            book, texts = Book(), {}
            for deed in range(25):
                name = chance.choice(names)
                text = "".join(chance.choice(["a", "b", "the ", "mill ", " ", "\n", "by "]) for sign in range(8))
                if chance.random() < 0.6:
                    self.put(book, texts, name, text)
                else:
                    self.take(book, texts, name)
                self.assertEqual(all_told(book), plain_book(texts), texts)
            self.check(book, texts)
            shuffled = list(texts.items())
            chance.shuffle(shuffled)
            anew = book_of(dict(shuffled))
            self.assertEqual((all_told(book), all_found(book)), (all_told(anew), all_found(anew)))

    def put(self, book, texts, name, text):
        if name in texts:
            check_refused(self, Twice, book.put, name, text)
        else:
            texts[name] = text
            self.assertEqual(book.put(name, text), plain_book_numbers(texts, name))

    def take(self, book, texts, name):
        if name not in texts:
            check_refused(self, NoText, book.take, name)
        else:
            numbers = plain_book_numbers(texts, name)
            texts.pop(name)
            self.assertEqual(book.take(name), numbers)


class Order(unittest.TestCase):
    def test_names_rise_as_texts(self):
        names = ["b", "a", "10", "9", "ab", "B", " ", "~", "\n"]
        book = book_of({name: "w" for name in names})
        self.assertEqual(book.names(), ["\n", " ", "10", "9", "B", "a", "ab", "b", "~"])
        self.assertEqual(book.ends(), [(name, 0, 0) for name in book.names()])

    def test_like_ends_of_two_texts_stand_by_the_lesser_place(self):
        for names in (("m", "n"), ("n", "m")):
            book = book_of({name: "the mill\nmill" for name in names})
            self.assertEqual(book.ends(), [("m", 0, 1), ("m", 1, 0), ("n", 0, 1), ("n", 1, 0), ("m", 0, 0),
                                           ("n", 0, 0)])
            self.assertEqual(book.shares(), [0, 1, 1, 1, 0, 2])
            self.assertEqual(book.found(read_question("mill")),
                             [("m", 0, 1, 2), ("m", 1, 0, 1), ("n", 0, 1, 2), ("n", 1, 0, 1)])

    def test_the_end_settles_the_order_ahead_of_the_place(self):
        book = book_of({"a": "z", "z": "a", "m": "a b\na"})
        self.assertEqual(book.ends(), [("m", 1, 0), ("z", 0, 0), ("m", 0, 0), ("m", 0, 1), ("a", 0, 0)])
        self.assertEqual(book.shares(), [0, 1, 1, 0, 0])

    def test_rows_and_words_by_their_numbers(self):
        book = book_of({"n": "w\n" * 12, "m": "a b w " * 5})
        self.assertEqual([place for place in book.ends() if place[0] == "n"], [("n", row, 0) for row in range(12)])
        self.assertEqual(book.found(read_question("w")), [("m", 0, at, at + 1) for at in (2, 5, 8, 11, 14)]
                         + [("n", row, 0, 1) for row in range(12)])

    def test_the_order_of_putting_is_nothing(self):
        texts = {"m": "the mill by\nthe race", "n": "by the mill", "k": "", "a": "the"}
        told = all_told(book_of(texts))
        for names in (["n", "m", "k", "a"], ["a", "k", "n", "m"], ["k", "a", "m", "n"]):
            book = book_of({name: texts[name] for name in names})
            self.assertEqual((all_told(book), all_found(book)), (told, all_found(book_of(texts))))


class Together(unittest.TestCase):
    def test_nothing_goes_over_from_one_text_into_another(self):
        book = book_of({"m": "by the", "n": "mill race", "o": "the mill"})
        self.assertEqual(book.found(read_question("the mill")), [("o", 0, 0, 2)])
        self.assertEqual(book.found(read_question("the ..9")), [("m", 0, 1, 2), ("o", 0, 0, 1), ("o", 0, 0, 2)])
        self.assertEqual(book.full_stretches(), [(("mill",), [("n", 0, 0), ("o", 0, 1)]),
                                                 (("the",), [("m", 0, 1), ("o", 0, 0)])])
        self.assertEqual(book.ends(), [("m", 0, 0), ("o", 0, 1), ("n", 0, 0), ("n", 0, 1), ("m", 0, 1), ("o", 0, 0)])
        self.assertEqual(book.shares(), [0, 0, 1, 0, 0, 1])

    def test_full_stretches_over_two_texts(self):
        book = book_of({"m": "the mill by", "n": "a\nby the mill"})
        self.assertEqual(book.full_stretches(), [(("by",), [("m", 0, 2), ("n", 1, 0)]),
                                                 (("the", "mill"), [("m", 0, 0), ("n", 1, 1)])])
        book.take("m")
        self.assertEqual(book.full_stretches(), [])

    def test_a_stretch_is_made_longer_only_where_it_is_in_all_texts(self):
        book = book_of({"m": "x a\nx a"})
        self.assertEqual(book.full_stretches(), [(("x", "a"), [("m", 0, 0), ("m", 1, 0)])])
        book.put("b", "a")
        self.assertEqual(book.full_stretches(), [(("a",), [("b", 0, 0), ("m", 0, 1), ("m", 1, 1)]),
                                                 (("x", "a"), [("m", 0, 0), ("m", 1, 0)])])

    def test_spans_without_words_in_each_row(self):
        book = book_of({"n": "a", "m": "", "k": "b\nc"})
        self.assertEqual(book.found(read_question("..0")), [("k", 0, 0, 0), ("k", 0, 1, 1), ("k", 1, 0, 0),
                                                            ("k", 1, 1, 1), ("n", 0, 0, 0), ("n", 0, 1, 1)])


class Own(unittest.TestCase):
    def test_every_told_list_may_be_changed(self):
        texts = {"m": "the mill by\nthe mill", "n": "by the mill", "k": ""}
        book = Book()
        for name, text in texts.items():
            spoil(book.put(name, text))
        told = all_told(book)
        found = all_found(book)
        self.assertEqual(told, plain_book(texts))
        for ask in (book.names, book.ends, book.shares, book.full_stretches, lambda: book.rows("m"),
                    lambda: book.rows("k"), lambda: book.found(read_question("..1"))):
            first = ask()
            second = copy.deepcopy(first)
            spoil(first)
            self.assertEqual(ask(), second)
            self.assertEqual((all_told(book), all_found(book)), (told, found))
        spoil(book.take("m"))
        self.assertEqual(all_told(book), plain_book({"n": "by the mill", "k": ""}))

    def test_told_lists_stay_as_they_were(self):
        book = book_of({"m": "the mill by\nthe mill", "n": "by the mill"})
        numbers = book.put("o", "mill")
        told, found = all_told(book), all_found(book)
        kept = copy.deepcopy((numbers, told, found))
        book.take("m")
        book.put("a", "the the by")
        book.put("m", "race")
        book.take("o")
        self.assertEqual((numbers, told, found), kept)

    def test_a_question_stays_as_it_was(self):
        book = book_of({"m": "the mill by\nthe mill"})
        question = read_question("the ( mill | ..2 ) ..1")
        told = book.found(question)
        self.assertEqual(question, read_question("the ( mill | ..2 ) ..1"))
        kept = list(told)
        spoil(question)
        self.assertEqual(told, kept)
        self.assertEqual(book.found(read_question("the ( mill | ..2 ) ..1")), kept)

    def test_no_two_told_lists_are_one(self):
        book = book_of({"m": "a a a\nb a", "n": "b a"})
        lists = [places for stretch, places in book.full_stretches()] + book.rows("m") + [book.rows("m")]
        self.assertEqual(len({id(told) for told in lists}), len(lists))


class Sizes(unittest.TestCase):
    def great_books(self):
        """Sixty texts with three hundred words together: all alike, all unlike, and by seeded chance."""
        chance = random.Random(28)
        return [{"n" + str(number): "a a a a a" for number in range(60)},
                {str(number): "\n".join("w" + str(5 * number + at) for at in range(5)) for number in range(60)},
                {"n" + str(number): " ".join(chance.choice("ab\n") for sign in range(6)) for number in range(60)}]

    def test_sixty_texts(self):
        for texts in self.great_books():
            with good_time(30):
                book = book_of(texts)
                told, found = all_told(book), all_found(book)
            self.assertEqual(told, plain_book(texts))
            self.assertEqual(found, [plain_book_found(texts, read_question(text)) for text in QUESTIONS])
            for name in sorted(texts)[::2]:
                numbers = plain_book_numbers(texts, name)
                texts.pop(name)
                self.assertEqual(book.take(name), numbers)
            self.assertEqual(all_told(book), plain_book(texts))

    def test_rows_of_the_greatest_sizes(self):
        question = read_question("a ..1 b")
        for rows in great_rows():
            rows = [row for row in rows if row]
            order = plain_ends(rows)
            with good_time(30):
                book = book_of({"n": "\n".join(" ".join(row) for row in rows)})
                told, found = all_told(book), book.found(question)
            self.assertEqual(told["rows"], {"n": rows})
            self.assertEqual(told["ends"], [("n",) + place for place in order])
            self.assertEqual(told["shares"], plain_shares(rows, order))
            self.assertEqual(found, [("n",) + met for met in all_met(rows, question)])
            self.assertEqual(told["full_stretches"], [(stretch, [("n",) + place for place in places])
                                                      for stretch, places in full_stretches(rows)])

    def test_long_texts_without_words(self):
        with good_time(30):
            book = book_of({str(number): ". \n" * 3333 for number in range(60)})
            self.assertEqual(len(book.names()), 60)
            self.assertEqual(book.ends(), [])


if __name__ == "__main__":
    unittest.main()
