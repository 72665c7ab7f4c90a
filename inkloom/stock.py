"""A stock of texts, one behind the other."""

from inkloom.errors import NoPlace
from inkloom.rows import many_upto
from inkloom.signs import is_between, need_text


class Stock:
    def __init__(self):
        self.texts = []
        self.begins = []
        self.feeds = []
        self.signs = 0

    def put(self, text):
        need_text(text)
        begin = self.signs
        self.texts.append(text)
        self.begins.append(begin)
        self.signs = begin + len(text)
        feed = text.find("\n")
        while feed >= 0:
            self.feeds.append(begin + feed)
            feed = text.find("\n", feed + 1)
        return begin

    def read(self, begin, size):
        if not is_between(begin, 0, self.signs) or not is_between(size, 0, self.signs - begin):
            raise NoPlace("what is read lies within the stock")
        pieces = []
        number = many_upto(self.begins, begin) - 1
        end = begin + size
        while begin < end:
            offset = begin - self.begins[number]
            piece = self.texts[number][offset:offset + end - begin]
            pieces.append(piece)
            begin = begin + len(piece)
            number = number + 1
        return "".join(pieces)

    def many(self):
        return self.signs

    def ends_ahead(self, place):
        return many_upto(self.feeds, place - 1)

    def end_place(self, number):
        return self.feeds[number]
