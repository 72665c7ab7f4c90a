"""Rows of deeds of every kind through the whole program, beside plain texts and rows."""

import random
import unittest

from inkloom import errors
from inkloom.changes import done
from inkloom.desk import Desk
from inkloom.hand import Hand
from inkloom.notes import read, shown
from inkloom.playing import play
from inkloom.room import Room
from inkloom.server import Server

from samples import PlainDesk, some_deed, some_text

ROW = [
    # A line, the answer, and the text behind it.
    ("step on", "3,3", "one two\nthree"),
    ('enter "!"', "1", "one! two\nthree"),
    ('enter "?"', "1", "one!? two\nthree"),
    ("span grows", "0", "one!? two\nthree"),
    ("mark right", "0", "one!? two\nthree"),
    ('paste "-"', "2", "one!?- two\nthree"),
    ("step down", "16,16", "one!?- two\nthree"),
    ("spread 0", "0,0 16,16", "one!?- two\nthree"),
    ("hold back", "0,0 16,11", "one!?- two\nthree"),
    ('paste "1 " "\\"3\\""', "3", '1 one!?- two\n"3"'),
    ("erase left", "4", '1one!?- two\n"3'),
    ("erase back", "5", 'one!?- two\n"'),
    ("undo", "4", '1one!?- two\n"3'),
    ("undo", "3", '1 one!?- two\n"3"'),
    ("go 1", "1", "one!? two\nthree"),
    ("redo", "2", "one!?- two\nthree"),
    ("only", "0,0", "one!?- two\nthree"),
    ("hold end", "0,10", "one!?- two\nthree"),
    ("span stays", "1", "one!?- two\nthree"),
    ("mark left", "1", "one!?- two\nthree"),
    ("step left", "0,0", "one!?- two\nthree"),
    ("step bottom", "16,16", "one!?- two\nthree"),
    ("hold up", "16,5", "one!?- two\nthree"),
    ("erase home", "6", "one!?"),
    ("spread 6", "no place", "one!?"),
    ("go 7", "no node", "one!?"),
    ('paste "a" "b"', "no deed", "one!?"),
    ("step home", "0,0", "one!?"),
    ("step right", "1,1", "one!?"),
    ("step end", "5,5", "one!?"),
    ("step back", "0,0", "one!?"),
    ("hold right", "0,1", "one!?"),
    ("erase on", "7", "ne!?"),
    ("step top", "0,0", "ne!?"),
    ("erase right", "8", "e!?"),
    ("erase end", "9", ""),
    ("go 0", "0", "one two\nthree"),
]


class RowTest(unittest.TestCase):
    def test_the_answers(self):
        self.assertEqual(play("one two\nthree", [line for line, answer, text in ROW]), [row[1] for row in ROW])

    def test_the_texts(self):
        desk, plain = Desk("one two\nthree"), PlainDesk("one two\nthree")
        for line, answer, text in ROW:
            deed = read(line)
            self.assertEqual(shown(deed), line)
            told = plain.deed(deed)
            if answer.startswith("no "):
                with self.assertRaises(getattr(errors, told)):
                    desk.deed(deed)
            else:
                self.assertEqual(desk.deed(deed), told)
            self.assertEqual((desk.text(), plain.text), (text, text), line)
            self.assertEqual(plain.told(), (text, desk.cursors(), desk.now(), desk.marked(), desk.spanned()))


class Place:
    """A desk and a hand, with a plain desk beside."""

    def __init__(self, number, text):
        self.desk = Desk(text)
        self.plain = PlainDesk(text)
        self.hand = Hand(number, text)


class SeveralHandsTest(unittest.TestCase):
    def test_rows_of_lines(self):
        for seed in range(12):
            chance = random.Random(seed)
            many = chance.choice([1, 2, 3, 8])
            text = some_text(chance, 12)
            self.server = Server(text, many)
            self.places = [Place(number, text) for number in range(many)]
            self.post = []
            for number in range(120):
                self.one_step(chance)
            for place in self.places:
                self.post += place.hand.nudge()
            while self.post:
                self.come(self.post.pop(0))
            for place in self.places:
                self.assertEqual((place.desk.text(), place.plain.text), (self.server.text(), self.server.text()))

    def one_step(self, chance):
        kind = chance.randrange(10)
        if self.post and kind < 6:
            number = chance.randrange(len(self.post))
            letter = self.post[number]
            if kind < 5:
                self.post.pop(number)
            if kind > 0:
                self.come(letter)
        else:
            self.do_line(chance, chance.choice(self.places))
        for place in self.places:
            desk = place.desk
            told = (desk.text(), desk.cursors(), desk.now(), desk.marked(), desk.spanned())
            self.assertEqual(told, place.plain.told())
            self.assertEqual(desk.text(), place.hand.text())

    def do_line(self, chance, place):
        plain = place.plain
        deed = read(shown(some_deed(chance, len(plain.text), len(plain.history.texts), len(plain.cursors))))
        ahead = plain.text
        told = plain.deed(deed)
        if isinstance(told, str):
            with self.assertRaises(getattr(errors, told)):
                place.desk.deed(deed)
            return
        self.assertEqual(place.desk.deed(deed), told)
        if isinstance(told, list) and any(part[0] != "keep" for part in told):
            self.assertEqual(done(ahead, told), plain.text)
            self.post += place.hand.do(told)

    def come(self, letter):
        if letter[0] != "took":
            self.post += self.server.came(letter)
            return
        place = self.places[letter[1]]
        posted, changes = place.hand.came(letter)
        for change in changes:
            place.desk.foreign(change)
            place.plain.foreign(change)
        self.post += posted


class LongTest(unittest.TestCase):
    def test_a_long_row_in_a_room(self):
        room = Room("", 8)
        for number in range(40):
            for hand in range(8):
                room.deed(hand, ("enter", "abcdefgh"[hand]))
                room.deed(hand, ("step", "left" if number % 3 else "bottom", False))
            if number % 10 == 9:
                self.assertEqual((room.meet(), room.meet()), (1, 0))
        texts = [room.text(hand) for hand in range(8)]
        self.assertEqual(texts, [room.server_text()] * 8)
        self.assertEqual(sorted(texts[0]), sorted("abcdefgh" * 40))
        for hand in range(8):
            room.deed(hand, ("go", 0))
        room.meet()
        self.assertEqual([room.text(hand) for hand in range(8)], [""] * 8)


if __name__ == "__main__":
    unittest.main()
