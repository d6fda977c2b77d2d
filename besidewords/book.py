"""Books: texts by names, with one row of ends over all of them."""

from besidewords.again import full_stretches
from besidewords.ends import ends, shares
from besidewords.errors import NoText, Twice
from besidewords.finding import met_by_ends
from besidewords.words import rows_of


class Book:
    def __init__(self):
        self.texts = {}
        self.arrange()

    def arrange(self):
        # The rows of all texts stand by names rising, so that places in them are in the order of places in the book.
        self.origins = []
        self.together = []
        for name in self.names():
            for row, words in enumerate(self.texts[name]):
                self.origins.append((name, row))
                self.together.append(words)
        self.order = ends(self.together)

    def put(self, name, text):
        if name in self.texts:
            raise Twice("a text has this name already")
        self.texts[name] = rows_of(text)
        self.arrange()
        return self.numbers_of(name)

    def take(self, name):
        self.want(name)
        numbers = self.numbers_of(name)
        self.texts.pop(name)
        self.arrange()
        return numbers

    def names(self):
        return sorted(self.texts)

    def rows(self, name):
        self.want(name)
        return [list(words) for words in self.texts[name]]

    def ends(self):
        return self.in_book(self.order)

    def shares(self):
        return shares(self.together, self.order)

    def found(self, question):
        return self.in_book(met_by_ends(self.together, self.order, question))

    def full_stretches(self):
        return [(stretch, self.in_book(places)) for stretch, places in full_stretches(self.together)]

    def want(self, name):
        if name not in self.texts:
            raise NoText("no text has this name")

    def numbers_of(self, name):
        return [number for number, place in enumerate(self.ends()) if place[0] == name]

    def in_book(self, tuples):
        # Places and spans both begin with the number of their row.
        return [self.origins[told[0]] + told[1:] for told in tuples]
