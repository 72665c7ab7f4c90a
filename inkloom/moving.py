"""How a change moves places."""

from inkloom.changes import need_change
from inkloom.errors import BadSide, NoPlace
from inkloom.rows import many_upto
from inkloom.signs import is_between, is_word

SIDES = ("left", "right")


def need_side(side):
    if not is_word(side, SIDES):
        raise BadSide("a side is left or right")


class Track:
    # What is kept lies in runs; found by halving, so that many places are moved fast by a change of many parts.
    def __init__(self, change):
        need_change(change)
        self.olds = []
        self.news = []
        self.lengths = []
        old = 0
        new = 0
        for word, what in change:
            if word == "put":
                new = new + len(what)
            elif word == "cut":
                old = old + len(what)
            else:
                self.olds.append(old)
                self.news.append(new)
                self.lengths.append(what)
                old = old + what
                new = new + what
        self.over = old
        self.gives = new

    def to_left(self, place):
        run = many_upto(self.olds, place - 1) - 1
        if run < 0:
            return 0
        return self.news[run] + min(self.lengths[run], place - self.olds[run])

    def to_right(self, place):
        run = many_upto(self.olds, place) - 1
        if run >= 0 and place < self.olds[run] + self.lengths[run]:
            return self.news[run] + place - self.olds[run]
        return self.news[run + 1] if run + 1 < len(self.news) else self.gives

    def lead(self, place, side):
        return self.to_left(place) if side == "left" else self.to_right(place)


def moved(change, place, side):
    track = Track(change)
    if not is_between(place, 0, track.over):
        raise NoPlace("the text has no such place")
    need_side(side)
    return track.lead(place, side)
