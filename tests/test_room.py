import copy
import random
import unittest

from inkloom.errors import BadDeed, BadText, NoHand, NoLetter, NoNode, NoPlace
from inkloom.hand import Hand
from inkloom.room import Room
from inkloom.server import Server

from samples import Odd, PlainDesk, no_texts, no_wholes, some_deed, some_text


class PlainRoom:
    """The same with plain desks, and a post of its own."""

    def __init__(self, text, hands):
        self.server = Server(text, hands)
        self.desks = [PlainDesk(text) for number in range(hands)]
        self.hands = [Hand(number, text) for number in range(hands)]
        self.post = []

    def deed(self, hand, deed):
        told = self.desks[hand].deed(deed)
        if isinstance(told, list) and any(part[0] != "keep" for part in told):
            self.post += self.hands[hand].do(told)
        return told

    def come(self, letter):
        if letter[0] in ("ask", "again"):
            self.post += self.server.came(letter)
        else:
            posted, changes = self.hands[letter[1]].came(letter)
            for change in changes:
                self.desks[letter[1]].foreign(change)
            self.post += posted

    def rests(self):
        known = all(hand.seen() == self.server.many() and hand.flight() is None for hand in self.hands)
        return known and not self.post


def all_of(room, hands):
    rows = [(room.text(hand), room.cursors(hand)) for hand in range(hands)]
    return rows, room.server_text(), room.letters(), room.rests()


def plainly(room):
    rows = [(desk.text, desk.cursors) for desk in room.desks]
    return rows, room.server.text(), room.post, room.rests()


class NewRoomTest(unittest.TestCase):
    def test_new_ones(self):
        for hands in range(1, 9):
            room = Room("ab", hands)
            self.assertEqual(all_of(room, hands), ([("ab", [(0, 0, None)])] * hands, "ab", [], True))
            self.assertEqual(room.meet(), 0)

    def test_refusals(self):
        for thing in no_texts():
            for hands in (1, 0, None, Odd()):
                with self.assertRaises(BadText):
                    Room(thing, hands)
        for hands in [0, -1, 9, 10 ** 30] + no_wholes():
            with self.assertRaises(NoHand):
                Room("ab", hands)


class DeedTest(unittest.TestCase):
    def test_a_deed_is_asked(self):
        room = Room("ab", 2)
        change = [("put", "x"), ("keep", 2)]
        self.assertEqual(room.deed(1, ("enter", "x")), change)
        self.assertEqual(room.letters(), [("ask", 1, 1, 0, change)])
        self.assertEqual((room.text(0), room.text(1), room.server_text(), room.rests()), ("ab", "xab", "ab", False))

    def test_what_keeps_all_is_not_asked(self):
        room = Room("ab", 2)
        for deed in (("enter", ""), ("erase", "left"), ("go", 0), ("step", "right", False), ("spread", 0), ("only",)):
            room.deed(0, deed)
        self.assertEqual((room.deed(0, ("mark", "left")), room.deed(0, ("span", True))), (0, 0))
        self.assertEqual((room.letters(), room.rests()), ([], True))

    def test_undo_redo_and_go_are_asked(self):
        room = Room("", 1)
        room.deed(0, ("enter", "x"))
        room.meet()
        for deed, change in [(("undo",), [("cut", "x")]), (("redo",), [("put", "x")]), (("go", 0), [("cut", "x")])]:
            self.assertEqual(room.deed(0, deed), change)
            self.assertEqual(room.letters()[0][4], change)
            self.assertEqual(room.meet(), 1)

    def test_refusals(self):
        room = Room("ab", 2)
        ahead = all_of(room, 2)
        for error, deed in [(BadDeed, None), (BadDeed, ("enter", "\t")), (NoNode, ("undo",)), (NoPlace, ("spread", 3)),
                            (BadDeed, ("paste", ("a", "b"))), (BadDeed, Odd())]:
            with self.assertRaises(error):
                room.deed(0, deed)
        for hand in [-1, 2, 8, 10 ** 30] + no_wholes():
            for ask in (room.text, room.cursors):
                with self.assertRaises(NoHand):
                    ask(hand)
            for deed in (("enter", "x"), ("undo",), None, Odd()):
                with self.assertRaises(NoHand):
                    room.deed(hand, deed)
        self.assertEqual(all_of(room, 2), ahead)


class PostTest(unittest.TestCase):
    def test_hand_over(self):
        room = Room("ab", 2)
        room.deed(0, ("enter", "x"))
        change = [("put", "x"), ("keep", 2)]
        self.assertIsNone(room.hand_over(0))
        self.assertEqual(room.letters(), [("took", 0, 1, 0, change), ("took", 1, 1, 0, change)])
        self.assertEqual((room.server_text(), room.text(1), room.rests()), ("xab", "ab", False))
        room.hand_over(1)
        self.assertEqual((room.text(1), room.rests(), room.letters()), ("xab", False, [("took", 0, 1, 0, change)]))
        room.hand_over(0)
        self.assertEqual((room.rests(), room.meet()), (True, 0))

    def test_letters_that_are_posted_stand_behind_the_others(self):
        room = Room("", 2)
        room.deed(0, ("enter", "x"))
        room.deed(1, ("enter", "y"))
        room.hand_over(0)
        self.assertEqual([letter[:2] for letter in room.letters()], [("ask", 1), ("took", 0), ("took", 1)])

    def test_twice(self):
        room = Room("ab", 2)
        room.deed(0, ("enter", "x"))
        self.assertIsNone(room.twice(0))
        self.assertEqual([letter[0] for letter in room.letters()], ["ask", "took", "took"])
        room.hand_over(0)
        self.assertEqual([letter[0] for letter in room.letters()], ["took", "took"])
        room.twice(1)
        room.twice(1)
        self.assertEqual((room.text(1), len(room.letters())), ("xab", 2))
        room.hand_over(1)
        self.assertEqual((room.text(1), len(room.letters())), ("xab", 1))

    def test_lose(self):
        room = Room("ab", 2)
        room.deed(0, ("enter", "x"))
        self.assertIsNone(room.lose(0))
        self.assertEqual((room.letters(), room.rests(), room.text(0), room.server_text()), ([], False, "xab", "ab"))
        self.assertEqual(room.meet(), 1)
        self.assertEqual((room.text(1), room.server_text(), room.rests(), room.meet()), ("xab", "xab", True, 0))

    def test_lost_took_letters(self):
        room = Room("ab", 3)
        room.deed(0, ("enter", "x"))
        room.hand_over(0)
        for number in range(3):
            room.lose(0)
        self.assertEqual((room.letters(), room.rests()), ([], False))
        self.assertEqual((room.meet(), room.rests()), (1, True))
        self.assertEqual([room.text(hand) for hand in range(3)], ["xab"] * 3)

    def test_each_hand_that_does_not_know_all_keeps_a_room_from_rest(self):
        room = Room("ab", 2)
        room.deed(0, ("enter", "x"))
        room.hand_over(0)
        room.hand_over(0)
        room.lose(0)
        self.assertEqual((room.letters(), room.rests(), room.text(1)), ([], False, "ab"))
        self.assertEqual((room.meet(), room.text(1)), (1, "xab"))

    def test_no_letters(self):
        room = Room("ab", 2)
        for letters in range(3):
            ahead = all_of(room, 2)
            for place in [-1, len(room.letters()), 10 ** 30] + no_wholes():
                for ask in (room.hand_over, room.twice, room.lose):
                    with self.assertRaises(NoLetter):
                        ask(place)
            self.assertEqual(all_of(room, 2), ahead)
            if letters < 2:
                room.deed(letters, ("enter", "x"))

    def test_letters_are_the_askers_own(self):
        room = Room("ab", 2)
        room.deed(0, ("enter", "x"))
        room.deed(1, ("enter", "y"))
        room.hand_over(0)
        kept = copy.deepcopy(room.letters())
        told = room.letters()
        for letter in told:
            letter[4].clear()
        told.clear()
        self.assertEqual(room.letters(), kept)
        told = room.letters()
        while room.letters():
            room.hand_over(0)
        self.assertEqual(told, kept)
        room.deed(0, ("enter", "z")).clear()
        room.cursors(0).clear()
        self.assertEqual(room.letters()[0][4], [("keep", 1), ("put", "z"), ("keep", 3)])
        self.assertEqual((room.meet(), room.server_text()), (1, "xzyab"))


class MeetTest(unittest.TestCase):
    def test_all_meet(self):
        room = Room("ab", 3)
        for hand, text in enumerate(("x", "y", "z")):
            room.deed(hand, ("enter", text))
            room.deed(hand, ("step", "bottom", False))
            room.deed(hand, ("enter", text.upper()))
        self.assertEqual(room.meet(), 1)
        self.assertEqual([room.text(hand) for hand in range(3)], [room.server_text()] * 3)
        self.assertEqual((room.server_text(), room.meet(), room.letters()), ("xyzabXYZ", 0, []))

    def test_undo_behind_others_changes(self):
        room = Room("ab", 2)
        room.deed(0, ("enter", "x"))
        room.deed(1, ("step", "bottom", False))
        room.deed(1, ("enter", "y"))
        room.meet()
        room.deed(0, ("undo",))
        room.meet()
        self.assertEqual([room.text(0), room.text(1), room.server_text()], ["aby"] * 3)
        room.deed(1, ("undo",))
        room.deed(0, ("redo",))
        room.meet()
        self.assertEqual([room.text(0), room.text(1), room.server_text()], ["xab"] * 3)

    def test_rows_beside_a_plain_room(self):
        for seed in range(30):
            chance = random.Random(seed)
            hands = chance.randrange(1, 6)
            text = some_text(chance, 8)
            room, plain = Room(text, hands), PlainRoom(text, hands)
            for number in range(100):
                self.one_step(chance, room, plain, hands)
                self.assertEqual(all_of(room, hands), plainly(plain))
                for hand in range(hands):
                    self.assertEqual(room.text(hand), plain.hands[hand].text())
            self.assert_meets(room, plain, hands)

    def one_step(self, chance, room, plain, hands):
        kind = chance.randrange(20)
        if kind < 8 or not plain.post and kind < 19:
            hand = chance.randrange(hands)
            desk = plain.desks[hand]
            deed = some_deed(chance, len(desk.text), len(desk.history.texts), len(desk.cursors))
            told = plain.deed(hand, deed)
            if isinstance(told, str):
                with self.assertRaises({"BadDeed": BadDeed, "NoPlace": NoPlace, "NoNode": NoNode}[told]):
                    room.deed(hand, deed)
            else:
                self.assertEqual(room.deed(hand, deed), told)
        elif kind < 15:
            place = chance.randrange(len(plain.post))
            self.assertIsNone(room.hand_over(place))
            plain.come(plain.post.pop(place))
        elif kind < 17:
            place = chance.randrange(len(plain.post))
            self.assertIsNone(room.twice(place))
            plain.come(plain.post[place])
        elif kind < 19:
            place = chance.randrange(len(plain.post))
            self.assertIsNone(room.lose(place))
            plain.post.pop(place)
        else:
            self.assert_meets(room, plain, hands)

    def assert_meets(self, room, plain, hands):
        rests = plain.rests()
        self.assertEqual(room.meet(), 0 if rests else 1)
        if not rests:
            for hand in plain.hands:
                plain.post += hand.nudge()
            while plain.post:
                plain.come(plain.post.pop(0))
        self.assertEqual(all_of(room, hands), plainly(plain))
        self.assertTrue(room.rests())
        self.assertEqual([room.text(hand) for hand in range(hands)], [room.server_text()] * hands)
        self.assertEqual(room.meet(), 0)


if __name__ == "__main__":
    unittest.main()
