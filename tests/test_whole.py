"""Point 3 and the interface: what is promised over the whole program."""

import importlib
import inspect
import random
import unittest

from besidewords.again import full_stretches
from besidewords.asking import all_met
from besidewords.beside import links
from besidewords.book import Book
from besidewords.ends import ends, is_row_of_ends, shares
from besidewords.finding import met_by_ends
from besidewords.papers import cheapest, is_paper, paper
from besidewords.prices import way_price
from besidewords.questions import read_question, show_question
from besidewords.words import rows_of, show_rows
from tests.helper import chance_question, plain_book, plain_found, plain_full

INTERFACE = {
    "words": ["is_word(text)", "rows_of(text)", "show_rows(rows)", "counted(rows)"],
    "ends": ["end_of(rows, place)", "ends(rows)", "shares(rows, places)", "stretch_of(rows, places, words)",
             "is_row_of_ends(rows, places, numbers)"],
    "again": ["places_of(rows, stretch)", "full_stretches(rows)", "neighbours(rows, stretch)"],
    "questions": ["read_question(text)", "show_question(question)"],
    "asking": ["spans(question, row)", "all_met(rows, question)"],
    "finding": ["met_by_ends(rows, places, question)"],
    "prices": ["price(lefts, rights, prices, pairs)", "way_price(lefts, rights, prices, pairs, steps)"],
    "papers": ["paper(lefts, rights, prices, pairs)", "is_paper(lefts, rights, prices, pairs, table)",
               "cheapest(lefts, rights, prices, pairs)"],
    "book": ["Book()", "Book.put(self, name, text)", "Book.take(self, name)", "Book.names(self)",
             "Book.rows(self, name)", "Book.ends(self)", "Book.shares(self)", "Book.found(self, question)",
             "Book.full_stretches(self)"],
    "beside": ["links(steps)", "beside(lefts, rights, steps, one, other)"],
    "desk": ["Desk()", "Desk.say(self, row)"],
    "errors": ["NoQuestion(at)"]}

LEFT_WORDS, RIGHT_WORDS = ["a", "b", "ab", "ba"], ["a", "x", "y"]


def chance_text(chance, words, most):
    """A text of at most so many rows, with great letters and signs between its words."""
    rows = [[chance.choice(words) for at in range(chance.randrange(4))] for row in range(chance.randrange(most + 1))]
    return "\n".join(chance.choice([" ", ", ", " - "]).join(row).title() for row in rows)


class Interface(unittest.TestCase):
    def test_all_names_are_there_with_their_arguments(self):
        for module, told in INTERFACE.items():
            for line in told:
                path = line.split("(")[0].split(".")
                value = importlib.import_module("besidewords." + module)
                for name in path:
                    value = getattr(value, name)
                self.assertEqual(path[-1] + str(inspect.signature(value)), line.split(".")[-1], module)


class Whole(unittest.TestCase):
    def test_the_places_told_are_those_of_the_plain_reading_whichever_way_they_are_found(self):
        chance = random.Random(3)
        for number in range(200):
            rows = rows_of(chance_text(chance, LEFT_WORDS, 4))
            question = chance_question(chance, 2)
            self.assertEqual(read_question(show_question(question)), question)
            book = Book()
            book.put("n", show_rows(rows))
            told = plain_found(rows, question)
            self.assertEqual(all_met(rows, question), told)
            self.assertEqual(met_by_ends(rows, ends(rows), question), told)
            self.assertEqual(book.found(question), [("n",) + met for met in told])

    def test_the_row_of_ends_is_let_by_and_all_full_stretches_are_told(self):
        chance = random.Random(4)
        for number in range(200):
            rows = rows_of(chance_text(chance, LEFT_WORDS, 5))
            places = ends(rows)
            self.assertTrue(is_row_of_ends(rows, places, shares(rows, places)))
            if len(places) > 1:
                turned = places[1:] + places[:1]
                self.assertFalse(is_row_of_ends(rows, turned, shares(rows, turned)))
            self.assertEqual(full_stretches(rows), plain_full(rows))

    def test_the_told_way_has_the_least_price_and_the_paper_shows_it(self):
        chance = random.Random(5)
        for number in range(100):
            lefts, rights = rows_of(chance_text(chance, LEFT_WORDS, 9)), rows_of(chance_text(chance, RIGHT_WORDS, 9))
            prices = tuple(chance.choice([0, 1, 2, 7, 10 ** 60]) for price in range(5))
            pairs = [(chance.choice(LEFT_WORDS), chance.choice(RIGHT_WORDS)) for pair in range(4)]
            table = paper(lefts, rights, prices, pairs)
            steps = cheapest(lefts, rights, prices, pairs)
            self.assertIs(is_paper(lefts, rights, prices, pairs, table), True)
            self.assertEqual(way_price(lefts, rights, prices, pairs, steps), table[-1][-1][0])
            self.assertEqual(sum([both[0] for both in links(steps)], []), list(range(len(lefts))))
            self.assertEqual(sum([both[1] for both in links(steps)], []), list(range(len(rights))))

    def test_a_book_is_at_each_time_as_one_made_anew(self):
        chance = random.Random(6)
        book, texts = Book(), {}
        for number in range(200):
            name = "n" + str(chance.randrange(12))
            if name in texts:
                texts.pop(name)
                book.take(name)
            else:
                texts[name] = chance_text(chance, LEFT_WORDS, 3)
                book.put(name, texts[name])
            plain = plain_book(texts)
            self.assertEqual((book.names(), book.ends(), book.shares(), book.full_stretches()),
                             (plain["names"], plain["ends"], plain["shares"], plain["full_stretches"]))


if __name__ == "__main__":
    unittest.main()
