"""Spans: parts of a text that move with it and grow or don't."""

from inkloom.errors import BadSide, NoPlace
from inkloom.marks import Shelf
from inkloom.signs import is_between, is_truth


class Spans(Shelf):
    def add(self, begin, end, grows):
        if not is_between(begin, 0, self.size()) or not is_between(end, begin, self.size()):
            raise NoPlace("a span leads from a place of the text to one that is no less")
        if not is_truth(grows):
            raise BadSide("a span grows or doesn't: True or False")
        return self.keep([(begin, "left" if grows else "right"), (end, "right" if grows else "left")])

    def told(self, number):
        stand = self.stand(number)
        end = stand[1][0]
        return (min(stand[0][0], end), end)

    def at(self, place):
        if not is_between(place, 0, self.size() - 1):
            raise NoPlace("no sign is there")
        return [number for number in self.numbers() if self.told(number)[0] <= place < self.told(number)[1]]

    def bounds(self):
        told = [self.told(number) for number in self.numbers()]
        full = [span for span in told if span[0] < span[1]]
        return sorted(set([span[0] for span in full] + [span[1] for span in full]))
