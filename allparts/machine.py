"""The machine: it keeps texts that grow, within the bounds of a book, and tells the table of its book."""

from allparts.books import MOST_SIGNS, MOST_TEXTS, refuse_no_text, signs_in
from allparts.errors import TooMany
from allparts.nodes import Nodes


class Machine:
    def __init__(self, book=None):
        self.texts = []
        self.heads = []
        self.nodes = Nodes()
        if book is not None:
            for text in book:
                self.grow(self.begin(), text)

    def begin(self):
        if len(self.texts) >= MOST_TEXTS:
            raise TooMany("there is no room for one more text")
        self.texts.append("")
        self.heads.append(0)
        return len(self.texts) - 1

    def grow(self, text, word):
        refuse_no_text(self.texts, text)
        if signs_in(self.texts) + len(word) > MOST_SIGNS:
            raise TooMany("there is no room for so many more signs")
        self.heads[text] = self.nodes.head_grown(self.heads[text], word)
        self.texts[text] = self.texts[text] + word

    def book(self):
        return list(self.texts)

    def table(self):
        return self.nodes.table()
