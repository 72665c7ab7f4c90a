"""Marks: places that move with a text, each with a side."""

from inkloom.errors import BadFit, NoMark, NoPlace
from inkloom.moving import Track, need_side
from inkloom.signs import is_between, is_whole


class Shelf:
    # What marks and spans share: under each number stand places of a text, each with the side that moves it.
    def __init__(self, size):
        if not is_whole(size) or size < 0:
            raise NoPlace("a text has no such number of signs")
        self.signs = size
        self.given = 0
        self.stands = {}

    def keep(self, sided):
        number = self.given
        self.stands[number] = sided
        self.given = number + 1
        return number

    def stand(self, number):
        if not is_whole(number) or number not in self.stands:
            raise NoMark("there is none of that number")
        return self.stands[number]

    def drop(self, number):
        self.stand(number)
        self.stands.pop(number)

    def numbers(self):
        return sorted(self.stands)

    def size(self):
        return self.signs

    def changed(self, change):
        track = Track(change)
        if track.over != self.signs:
            raise BadFit("the change is over a text of another number of signs")
        for number in list(self.stands):
            self.stands[number] = [(track.lead(place, side), side) for place, side in self.stands[number]]
        self.signs = track.gives


class Marks(Shelf):
    def add(self, place, side):
        if not is_between(place, 0, self.size()):
            raise NoPlace("the text has no such place")
        need_side(side)
        return self.keep([(place, side)])

    def place(self, number):
        return self.stand(number)[0][0]

    def side(self, number):
        return self.stand(number)[0][1]

    def within(self, begin, end):
        if not is_between(begin, 0, self.size()) or not is_between(end, begin, self.size()):
            raise NoPlace("marks are sought from a place of the text to one that is no less")
        found = [(self.place(number), number) for number in self.numbers() if begin <= self.place(number) <= end]
        return [number for place, number in sorted(found)]
