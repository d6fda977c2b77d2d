"""The desk: a left and a right book, prices and pairs, asked and changed by rows of text."""

from besidewords.beside import beside
from besidewords.book import Book
from besidewords.errors import NoDeed
from besidewords.papers import cheapest, paper
from besidewords.questions import read_question
from besidewords.words import is_word

FIGURES = "0123456789"
MOST_FIGURES = 60
MOST_NAME_SIGNS = 12


class Desk:
    def __init__(self):
        self.books = {"left": Book(), "right": Book()}
        self.prices = (1, 2, 3, 1, 1)
        self.pairs = {}

    def say(self, row):
        if not isinstance(row, str):
            raise NoDeed("what is said to a desk is a text")
        cut = row.partition(" ")
        deed = cut[0]
        rest = cut[2]
        if deed == "put":
            return self.say_put(rest)
        if deed == "take":
            return self.say_take(rest)
        if deed == "ask":
            return self.say_ask(rest)
        if deed == "again":
            return self.say_again(rest)
        if deed == "goes":
            return self.say_goes(rest)
        if deed == "price":
            return self.say_price(rest)
        if deed == "lay":
            return self.say_lay(rest)
        if deed == "beside":
            return self.say_beside(rest)
        raise NoDeed("a desk knows no such deed")

    # In each of these what may be refused with NoDeed is read first, then the questions, and then the books are asked.

    def say_put(self, rest):
        cut = halves(rest, "\n")
        words = words_told(cut[0], 2)
        book = self.book_of(words[0])
        return in_row(["put"] + book.put(name_told(words[1]), cut[1]))

    def say_take(self, rest):
        words = words_told(rest, 2)
        book = self.book_of(words[0])
        return in_row(["took"] + book.take(name_told(words[1])))

    def say_ask(self, rest):
        cut = halves(rest, " ")
        book = self.book_of(cut[0])
        found = book.found(read_question(cut[1]))
        return or_nothing(in_row([f"{name}:{row}:{low}-{high}" for name, row, low, high in found]))

    def say_again(self, rest):
        stretches = self.book_of(rest).full_stretches()
        return or_nothing("; ".join([in_row([len(places)] + list(stretch)) for stretch, places in stretches]))

    def say_goes(self, rest):
        words = words_told(rest, 2)
        self.pairs[(word_told(words[0]), word_told(words[1]))] = True
        return in_row(["pairs", len(self.pairs)])

    def say_price(self, rest):
        self.prices = tuple([number_told(word) for word in words_told(rest, 5)])
        return "ok"

    def say_lay(self, rest):
        texts = self.texts_of(name_told(rest))
        last = paper(texts[0], texts[1], self.prices, list(self.pairs))[-1][-1]
        return in_row([last[0], "of", last[1]])

    def say_beside(self, rest):
        cut = halves(rest, " ")
        name = name_told(cut[0])
        questions = [read_question(text) for text in halves(cut[1], " // ")]
        texts = self.texts_of(name)
        steps = cheapest(texts[0], texts[1], self.prices, list(self.pairs))
        found = beside(texts[0], texts[1], steps, questions[0], questions[1])
        return or_nothing(in_row([f"{row}:{low}-{high}" for row, low, high in found]))

    def book_of(self, side):
        if side not in self.books:
            raise NoDeed("a side is left or right")
        return self.books[side]

    def texts_of(self, name):
        return [self.books[side].rows(name) for side in ("left", "right")]


def halves(text, sign):
    cut = text.partition(sign)
    if cut[1] == "":
        raise NoDeed("something lacks in this row")
    return [cut[0], cut[2]]


def words_told(text, many):
    words = text.split(" ")
    if len(words) != many:
        raise NoDeed("this row wants another number of words")
    return words


def word_told(text):
    if not is_word(text):
        raise NoDeed("a word is of small letters and figures")
    return text


def name_told(text):
    if len(text) > MOST_NAME_SIGNS:
        raise NoDeed("a name has at most twelve signs")
    return word_told(text)


def number_told(text):
    if text == "" or len(text) > MOST_FIGURES or not all([sign in FIGURES for sign in text]):
        raise NoDeed("a number is of one to sixty figures")
    if text[0] == "0" and text != "0":
        raise NoDeed("a number has no nought ahead of others")
    return int(text)


def in_row(things):
    return " ".join([str(thing) for thing in things])


def or_nothing(text):
    return text if text != "" else "nothing"
