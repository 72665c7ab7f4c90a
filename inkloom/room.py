"""A room: desks of one text, a hand for each, a server, and the post between them."""

from inkloom.changes import keeps_all
from inkloom.desk import Desk
from inkloom.errors import NoHand, NoLetter
from inkloom.hand import Hand
from inkloom.server import Server
from inkloom.signs import is_between


def letter_copied(letter):
    return tuple([list(part) if isinstance(part, list) else part for part in letter])


class Room:
    def __init__(self, text, hands):
        self.server = Server(text, hands)
        self.desks = [Desk(text) for number in range(hands)]
        self.hands = [Hand(number, text) for number in range(hands)]
        self.post = []

    def need_hand(self, hand):
        if not is_between(hand, 0, len(self.hands) - 1):
            raise NoHand("there is no such hand")

    def need_letter(self, place):
        if not is_between(place, 0, len(self.post) - 1):
            raise NoLetter("no letter lies there")

    def text(self, hand):
        self.need_hand(hand)
        return self.desks[hand].text()

    def cursors(self, hand):
        self.need_hand(hand)
        return self.desks[hand].cursors()

    def server_text(self):
        return self.server.text()

    def letters(self):
        return [letter_copied(letter) for letter in self.post]

    def deed(self, hand, deed):
        self.need_hand(hand)
        told = self.desks[hand].deed(deed)
        if isinstance(told, list) and not keeps_all(told):
            self.post.extend(self.hands[hand].do(told))
        return told

    def come(self, letter):
        if letter[0] != "took":
            self.post.extend(self.server.came(letter))
            return
        told = self.hands[letter[1]].came(letter)
        for change in told[1]:
            self.desks[letter[1]].foreign(change)
        self.post.extend(told[0])

    def hand_over(self, place):
        self.need_letter(place)
        self.come(self.post.pop(place))

    def twice(self, place):
        self.need_letter(place)
        self.come(self.post[place])

    def lose(self, place):
        self.need_letter(place)
        self.post.pop(place)

    def rests(self):
        busy = [hand for hand in self.hands if hand.flight() is not None or hand.seen() < self.server.many()]
        return len(self.post) == 0 and len(busy) == 0

    def meet(self):
        if self.rests():
            return 0
        for hand in self.hands:
            self.post.extend(hand.nudge())
        while len(self.post) > 0:
            self.hand_over(0)
        return 1
