"""A hand: one of those that change a text together, by letters to and from a server."""

from inkloom.changes import done, is_change
from inkloom.errors import BadLetter, NoHand
from inkloom.joining import then
from inkloom.passing import passed
from inkloom.server import MOST_HANDS
from inkloom.signs import is_between, is_whole, is_word, need_text


class Stand:
    def __init__(self, text):
        self.signs = text
        self.known = 0
        self.serial = 0
        self.flying = None
        self.delayed = None
        self.early = {}


def twin_of(stand):
    other = Stand(stand.signs)
    other.known = stand.known
    other.serial = stand.serial
    other.flying = stand.flying
    other.delayed = stand.delayed
    other.early = dict(stand.early)
    return other


def copied(change):
    return None if change is None else list(change)


def let_in(stand, change):
    if stand.flying is not None:
        pair = passed(change, stand.flying)
        change = pair[0]
        stand.flying = pair[1]
    if stand.delayed is not None:
        pair = passed(change, stand.delayed)
        change = pair[0]
        stand.delayed = pair[1]
    stand.signs = done(stand.signs, change)
    return change


class Hand:
    def __init__(self, number, text):
        if not is_between(number, 0, MOST_HANDS - 1):
            raise NoHand("hands are numbered from 0 to 7")
        need_text(text)
        self.number = number
        self.stand_now = Stand(text)

    def text(self):
        return self.stand_now.signs

    def seen(self):
        return self.stand_now.known

    def flight(self):
        return copied(self.stand_now.flying)

    def waiting(self):
        return copied(self.stand_now.delayed)

    def ask(self, stand):
        return ("ask", self.number, stand.serial, stand.known, list(stand.flying))

    def take_off(self, stand, change):
        stand.serial = stand.serial + 1
        stand.flying = change
        return [self.ask(stand)]

    def do(self, change):
        stand = self.stand_now
        signs = done(stand.signs, change)
        if stand.delayed is not None:
            stand.delayed = then(stand.delayed, change)
        elif stand.flying is not None:
            stand.delayed = list(change)
        stand.signs = signs
        return self.take_off(stand, list(change)) if stand.flying is None else []

    def need_took(self, letter):
        if not isinstance(letter, tuple) or len(letter) != 5 or not is_word(letter[0], ("took",)):
            raise BadLetter("a took letter is a tuple of five")
        if not is_whole(letter[1]) or letter[1] != self.number:
            raise BadLetter("this letter is not for this hand")
        if not is_whole(letter[2]) or letter[2] < 1 or not is_between(letter[3], 0, MOST_HANDS - 1):
            raise BadLetter("no hand's change is taken with this number")
        if not is_change(letter[4]):
            raise BadLetter("what was taken is a change")

    def land(self, stand):
        if stand.flying is None:
            raise BadLetter("nothing is in flight")
        change = stand.delayed
        stand.flying = None
        stand.delayed = None
        return [] if change is None else self.take_off(stand, change)

    def came(self, letter):
        self.need_took(letter)
        # A twin is worked on: where one of the letters is refused, nothing is changed.
        stand = twin_of(self.stand_now)
        posted = []
        told = []
        if letter[2] > stand.known and letter[2] not in stand.early:
            stand.early[letter[2]] = (letter[3], list(letter[4]))
        while stand.known + 1 in stand.early:
            stand.known = stand.known + 1
            taken = stand.early.pop(stand.known)
            if taken[0] == self.number:
                posted.extend(self.land(stand))
            else:
                told.append(let_in(stand, taken[1]))
        self.stand_now = stand
        return (posted, told)

    def nudge(self):
        again = ("again", self.number, self.seen())
        return [again] if self.stand_now.flying is None else [again, self.ask(self.stand_now)]
