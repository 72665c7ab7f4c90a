"""The server: it takes the changes of several hands, one behind the other."""

from inkloom.changes import done, is_change
from inkloom.errors import BadLetter, NoHand, NoLetter
from inkloom.passing import passed
from inkloom.signs import is_between, is_whole, is_word, need_text

MOST_HANDS = 8


class Server:
    def __init__(self, text, hands):
        need_text(text)
        if not is_between(hands, 1, MOST_HANDS):
            raise NoHand("there are 1 to 8 hands")
        self.signs = text
        self.serials = [0 for hand in range(hands)]
        self.changes = []
        self.makers = []

    def text(self):
        return self.signs

    def many(self):
        return len(self.changes)

    def change(self, number):
        if not is_between(number, 1, self.many()):
            raise NoLetter("no change of that number was taken")
        return list(self.changes[number - 1])

    def took(self, hand, number):
        return ("took", hand, number, self.makers[number - 1], self.change(number))

    def is_ask(self, letter):
        if len(letter) != 5 or not is_word(letter[0], ("ask",)) or not self.is_known(letter[1], letter[3]):
            return False
        return is_whole(letter[2]) and letter[2] >= 1 and is_change(letter[4])

    def is_again(self, letter):
        return len(letter) == 3 and is_word(letter[0], ("again",)) and self.is_known(letter[1], letter[2])

    def is_known(self, hand, number):
        return is_between(hand, 0, len(self.serials) - 1) and is_between(number, 0, self.many())

    def came(self, letter):
        if not isinstance(letter, tuple):
            raise BadLetter("a letter is a tuple")
        if self.is_again(letter):
            return [self.took(letter[1], number) for number in range(letter[2] + 1, self.many() + 1)]
        if not self.is_ask(letter):
            raise BadLetter("this is no letter to the server of these hands")
        if letter[2] != self.serials[letter[1]] + 1:
            return []
        return self.take_in(letter[1], letter[3], letter[4])

    def take_in(self, hand, number, change):
        for taken in self.changes[number:]:
            change = passed(taken, change)[1]
        self.signs = done(self.signs, change)
        self.serials[hand] = self.serials[hand] + 1
        self.changes.append(list(change))
        self.makers.append(hand)
        return [self.took(other, self.many()) for other in range(len(self.serials))]
