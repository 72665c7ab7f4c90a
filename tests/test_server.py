import copy
import random
import unittest

from inkloom.changes import done
from inkloom.errors import BadFit, BadLetter, BadText, NoHand, NoLetter
from inkloom.passing import passed
from inkloom.server import Server

from samples import Odd, no_changes, no_texts, no_wholes, other_kinds, some_change, some_text


def all_of(server):
    return server.text(), server.many(), [server.change(number) for number in range(1, server.many() + 1)]


class NewServerTest(unittest.TestCase):
    def test_a_new_one(self):
        for hands in range(1, 9):
            self.assertEqual(all_of(Server("ab\n", hands)), ("ab\n", 0, []))

    def test_what_is_no_text(self):
        for thing in no_texts():
            for hands in (1, 0, None, Odd()):
                with self.assertRaises(BadText):
                    Server(thing, hands)

    def test_another_number_of_hands(self):
        for hands in [0, -1, 9, 10 ** 30] + no_wholes():
            with self.assertRaises(NoHand):
                Server("ab", hands)


class AskTest(unittest.TestCase):
    def test_one_ask(self):
        server = Server("ab", 3)
        change = [("keep", 1), ("put", "x"), ("keep", 1)]
        told = server.came(("ask", 1, 1, 0, change))
        self.assertEqual(told, [("took", 0, 1, 1, change), ("took", 1, 1, 1, change), ("took", 2, 1, 1, change)])
        self.assertIsInstance(told, list)
        self.assertEqual(all_of(server), ("axb", 1, [change]))

    def test_each_told_change_is_a_list_of_its_own(self):
        server = Server("ab", 3)
        change = [("keep", 2), ("put", "x")]
        told = server.came(("ask", 1, 1, 0, change))
        kept = list(change)
        change.clear()
        told[0][4].clear()
        self.assertEqual([told[1][4], told[2][4]], [kept, kept])
        told[1][4].append(("keep", 7))
        server.change(1).clear()
        self.assertEqual(all_of(server), ("abx", 1, [kept]))
        again = server.came(("again", 0, 0)) + server.came(("again", 0, 0))
        again[0][4].clear()
        self.assertEqual((again[1][4], server.came(("again", 2, 0))), (kept, [("took", 2, 1, 1, kept)]))

    def test_a_late_ask_passes_what_was_taken(self):
        server = Server("ab", 2)
        server.came(("ask", 0, 1, 0, [("keep", 1), ("put", "x"), ("keep", 1)]))
        server.came(("ask", 0, 2, 1, [("cut", "a"), ("keep", 2)]))
        told = server.came(("ask", 1, 1, 0, [("keep", 1), ("put", "y"), ("cut", "b")]))
        # What was taken ahead stands first at a gap.
        self.assertEqual(told[1], ("took", 1, 3, 1, [("keep", 1), ("put", "y"), ("cut", "b")]))
        self.assertEqual(server.text(), "xy")

    def test_asks_with_other_serials_are_passed_over(self):
        server = Server("ab", 2)
        for serial in (2, 3, 10 ** 30):
            self.assertEqual(server.came(("ask", 0, serial, 0, [("keep", 2), ("put", "x")])), [])
        self.assertEqual(all_of(server), ("ab", 0, []))
        server.came(("ask", 0, 1, 0, [("keep", 2), ("put", "x")]))
        ahead = all_of(server)
        for serial in (1, 3, 4):
            self.assertEqual(server.came(("ask", 0, serial, 0, [("keep", 2), ("put", "x")])), [])
            self.assertEqual(server.came(("ask", 0, serial, 1, [("keep", 99)])), [])
        self.assertEqual(all_of(server), ahead)
        self.assertEqual(len(server.came(("ask", 1, 1, 1, [("keep", 3)]))), 2)
        self.assertEqual(len(server.came(("ask", 0, 2, 2, [("keep", 3)]))), 2)

    def test_a_change_that_keeps_all_is_taken_too(self):
        server = Server("", 1)
        self.assertEqual(server.came(("ask", 0, 1, 0, [])), [("took", 0, 1, 0, [])])
        self.assertEqual(all_of(server), ("", 1, [[]]))

    def test_rows_beside_plain_texts(self):
        for seed in range(15):
            chance = random.Random(seed)
            texts, changes = [some_text(chance, 10)], []
            hands = chance.randrange(1, 9)
            server, serials = Server(texts[0], hands), [0] * hands
            for number in range(1, 30):
                hand, at = chance.randrange(hands), chance.randrange(max(0, number - 6), number)
                change = some_change(chance, texts[at])
                serials[hand] += 1
                letter = ("ask", hand, serials[hand], at, change)
                told = server.came(letter)
                for one in changes[at:]:
                    change = passed(one, change)[1]
                changes.append(change)
                texts.append(done(texts[-1], change))
                self.assertEqual(told, [("took", other, number, hand, change) for other in range(hands)])
                self.assertEqual(all_of(server), (texts[-1], number, changes))
                self.assertEqual(server.came(letter), [])


class AgainTest(unittest.TestCase):
    def test_all_behind_a_number(self):
        server = Server("", 2)
        changes = [[("put", "a")], [("keep", 1), ("put", "b")], [("cut", "a"), ("keep", 1)]]
        for number, change in enumerate(changes):
            server.came(("ask", number % 2, number // 2 + 1, number, change))
        took = [("took", 1, 1, 0, changes[0]), ("took", 1, 2, 1, changes[1]), ("took", 1, 3, 0, changes[2])]
        for at in range(4):
            self.assertEqual(server.came(("again", 1, at)), took[at:])
        self.assertEqual(server.came(("again", 0, 2)), [("took", 0, 3, 0, changes[2])])
        self.assertEqual(all_of(server), ("b", 3, changes))

    def test_of_a_new_server(self):
        self.assertEqual(Server("ab", 1).came(("again", 0, 0)), [])


class RefusalsTest(unittest.TestCase):
    def served(self):
        server = Server("ab", 2)
        server.came(("ask", 0, 1, 0, [("keep", 2), ("put", "c")]))
        return server

    def test_no_letter(self):
        server = self.served()
        ahead = all_of(server)
        good = [("keep", 3)]
        bad = other_kinds() + [0, "", "ask", "again", [], (), ("ask",), ("again",), ["again", 0, 0],
                               ["ask", 0, 2, 1, good], ("ask", 0, 2, 1), ("ask", 0, 2, 1, good, 0), ("again", 0),
                               ("again", 0, 0, 0), ("took", 0, 1, 0, good), ("took", 0, 0), ("Ask", 0, 2, 1, good),
                               ("", 0, 0), ("again", 0, 0, [], []), ("ask", 0, 2), ("nudge", 0, 0)]
        for thing in no_wholes() + [-1, 2, 10 ** 30]:
            bad += [("ask", thing, 2, 1, good), ("again", thing, 1), ("ask", 0, 2, thing, good), ("again", 0, thing)]
        for thing in no_wholes() + [0, -1]:
            bad.append(("ask", 0, thing, 1, good))
        for word in other_kinds() + [0, (), []]:
            bad += [(word, 0, 2, 1, good), (word, 0, 1)]
        for change in no_changes():
            bad.append(("ask", 0, 2, 1, change))
        for number, letter in enumerate(bad):
            with self.assertRaises(BadLetter, msg=number):
                server.came(letter)
        self.assertEqual(all_of(server), ahead)

    def test_bad_letters_with_other_serials_are_no_letters_either(self):
        server = self.served()
        for letter in [("ask", 0, 7, 1, None), ("ask", 0, 1, 2, [("keep", 3)]), ("ask", 0, 1, 0, [("keep", 0)])]:
            with self.assertRaises(BadLetter):
                server.came(letter)

    def test_bad_fit(self):
        server = self.served()
        ahead = all_of(server)
        for at, change in [(0, []), (0, [("keep", 3)]), (1, [("keep", 2)]), (1, [("keep", 4)]), (1, [("cut", "abx")]),
                           (0, [("cut", "x"), ("keep", 1)]), (1, [("keep", 2), ("put", "y"), ("cut", "d")])]:
            with self.assertRaises(BadFit, msg=(at, change)):
                server.came(("ask", 0, 2, at, change))
            self.assertEqual(all_of(server), ahead)
        self.assertEqual(len(server.came(("ask", 0, 2, 0, [("keep", 2)]))), 2)

    def test_a_change_that_can_not_pass(self):
        server = Server("ab", 2)
        server.came(("ask", 0, 1, 0, [("cut", "a"), ("keep", 1)]))
        with self.assertRaises(BadFit):
            server.came(("ask", 1, 1, 0, [("cut", "x"), ("keep", 1)]))
        self.assertEqual(all_of(server), ("b", 1, [[("cut", "a"), ("keep", 1)]]))
        self.assertEqual(len(server.came(("ask", 1, 1, 0, [("cut", "a"), ("keep", 1)]))), 2)
        self.assertEqual(server.change(2), [("keep", 1)])

    def test_no_such_change(self):
        server = self.served()
        for thing in [0, -1, 2, 10 ** 30] + no_wholes():
            with self.assertRaises(NoLetter):
                server.change(thing)
        with self.assertRaises(NoLetter):
            Server("", 1).change(1)

    def test_what_is_handed_in_stays(self):
        server = Server("ab", 2)
        letter = ("ask", 0, 1, 0, [("keep", 2), ("put", "c")])
        kept = copy.deepcopy(letter)
        server.came(letter)
        self.assertEqual(letter, kept)


if __name__ == "__main__":
    unittest.main()
