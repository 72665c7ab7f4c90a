import copy
import random
import unittest

from inkloom.changes import done
from inkloom.errors import BadChange, BadFit, BadLetter, BadText, NoHand
from inkloom.hand import Hand
from inkloom.joining import then
from inkloom.server import Server

from samples import Odd, no_changes, no_texts, no_wholes, other_kinds, some_change, some_text


def all_of(hand):
    return hand.text(), hand.seen(), hand.flight(), hand.waiting(), hand.nudge()


class NewHandTest(unittest.TestCase):
    def test_a_new_one(self):
        for number in range(8):
            self.assertEqual(all_of(Hand(number, "ab")), ("ab", 0, None, None, [("again", number, 0)]))

    def test_refusals(self):
        for number in [-1, 8, 10 ** 30] + no_wholes():
            for text in ("ab", "\t", None, Odd()):
                with self.assertRaises(NoHand):
                    Hand(number, text)
        for text in no_texts():
            with self.assertRaises(BadText):
                Hand(0, text)


class DoTest(unittest.TestCase):
    def test_the_first_change_is_in_flight(self):
        hand = Hand(2, "ab")
        change = [("keep", 2), ("put", "c")]
        told = hand.do(change)
        self.assertEqual(told, [("ask", 2, 1, 0, change)])
        self.assertEqual((hand.text(), hand.seen(), hand.flight(), hand.waiting()), ("abc", 0, change, None))

    def test_the_next_ones_wait(self):
        hand = Hand(2, "ab")
        hand.do([("keep", 2), ("put", "c")])
        self.assertEqual(hand.do([("cut", "a"), ("keep", 2)]), [])
        self.assertEqual(hand.waiting(), [("cut", "a"), ("keep", 2)])
        self.assertEqual(hand.do([("keep", 1), ("cut", "c")]), [])
        self.assertEqual(hand.waiting(), [("cut", "a"), ("keep", 1), ("cut", "c")])
        self.assertEqual((hand.text(), hand.flight()), ("b", [("keep", 2), ("put", "c")]))

    def test_at_is_how_many_it_knows(self):
        hand = Hand(1, "ab")
        hand.came(("took", 1, 1, 0, [("keep", 2), ("put", "x")]))
        self.assertEqual(hand.do([("keep", 3)]), [("ask", 1, 1, 1, [("keep", 3)])])

    def test_refusals(self):
        hand = Hand(0, "ab")
        hand.do([("keep", 2), ("put", "c")])
        hand.do([("keep", 3), ("put", "d")])
        ahead = all_of(hand)
        for thing in no_changes():
            with self.assertRaises(BadChange):
                hand.do(thing)
        for change in ([], [("keep", 3)], [("keep", 5)], [("cut", "b"), ("keep", 3)], [("keep", 3), ("cut", "e")],
                       [("cut", "x"), ("keep", 3)]):
            with self.assertRaises(BadFit):
                hand.do(change)
        with self.assertRaises(BadChange):
            hand.do([("keep", 9), ("keep", 0)])
        self.assertEqual(all_of(hand), ahead)

    def test_a_refused_change_is_not_in_flight(self):
        hand = Hand(0, "ab")
        with self.assertRaises(BadFit):
            hand.do([("keep", 1)])
        self.assertEqual(all_of(hand), ("ab", 0, None, None, [("again", 0, 0)]))


class CameTest(unittest.TestCase):
    def test_by_another_hand(self):
        hand = Hand(1, "ab")
        change = [("keep", 2), ("put", "x")]
        self.assertEqual(hand.came(("took", 1, 1, 0, change)), ([], [change]))
        self.assertEqual(all_of(hand), ("abx", 1, None, None, [("again", 1, 1)]))

    def test_by_each_other_hand(self):
        hand = Hand(3, "")
        for number, who in enumerate((0, 1, 2, 4, 5, 6, 7), start=1):
            self.assertEqual(hand.came(("took", 3, number, who, [])), ([], [[]]))
        self.assertEqual(hand.seen(), 7)

    def test_by_another_hand_past_flight_and_what_waits(self):
        hand = Hand(1, "ab")
        hand.do([("keep", 1), ("put", "c"), ("keep", 1)])
        hand.do([("keep", 2), ("put", "d"), ("cut", "b")])
        told = hand.came(("took", 1, 1, 0, [("keep", 1), ("put", "x"), ("keep", 1), ("put", "y")]))
        self.assertEqual(told, ([], [[("keep", 1), ("put", "x"), ("keep", 2), ("put", "y")]]))
        self.assertEqual(hand.text(), "axcdy")
        self.assertEqual(hand.flight(), [("keep", 2), ("put", "c"), ("keep", 2)])
        self.assertEqual(hand.waiting(), [("keep", 3), ("put", "d"), ("cut", "b"), ("keep", 1)])

    def test_by_itself(self):
        hand = Hand(1, "ab")
        change = [("keep", 2), ("put", "c")]
        hand.do(change)
        self.assertEqual(hand.came(("took", 1, 1, 1, change)), ([], []))
        self.assertEqual(all_of(hand), ("abc", 1, None, None, [("again", 1, 1)]))
        self.assertEqual(hand.do([("keep", 3)]), [("ask", 1, 2, 1, [("keep", 3)])])

    def test_by_itself_whichever_change_the_letter_tells(self):
        for change in ([], [("keep", 99)], [("cut", "zzz")]):
            hand = Hand(1, "ab")
            hand.do([("keep", 2), ("put", "c")])
            self.assertEqual(hand.came(("took", 1, 1, 1, change)), ([], []))
            self.assertEqual((hand.text(), hand.flight()), ("abc", None))

    def test_by_itself_with_one_that_waits(self):
        hand = Hand(1, "ab")
        hand.do([("keep", 2), ("put", "c")])
        hand.do([("keep", 3), ("put", "d")])
        hand.do([("keep", 4), ("put", "e")])
        told = hand.came(("took", 1, 1, 1, [("keep", 2), ("put", "c")]))
        self.assertEqual(told, ([("ask", 1, 2, 1, [("keep", 3), ("put", "de")])], []))
        self.assertEqual((hand.flight(), hand.waiting(), hand.text()), ([("keep", 3), ("put", "de")], None, "abcde"))

    def test_letters_that_come_early_are_kept(self):
        hand = Hand(1, "")
        row = [("took", 1, number, 0, [("keep", number - 1)][:number - 1] + [("put", "x")]) for number in (1, 2, 3, 4)]
        self.assertEqual(hand.came(row[2]), ([], []))
        self.assertEqual(hand.came(row[1]), ([], []))
        self.assertEqual((hand.text(), hand.seen()), ("", 0))
        self.assertEqual(hand.came(row[0]), ([], [row[0][4], row[1][4], row[2][4]]))
        self.assertEqual((hand.text(), hand.seen()), ("xxx", 3))
        self.assertEqual(hand.came(row[3]), ([], [row[3][4]]))

    def test_letters_that_come_twice_are_passed_over(self):
        hand = Hand(1, "")
        first, other = ("took", 1, 1, 0, [("put", "x")]), ("took", 1, 2, 0, [("keep", 1), ("put", "y")])
        hand.came(other)
        # The first one that came with a number is kept.
        self.assertEqual(hand.came(("took", 1, 2, 0, [("keep", 1), ("put", "z")])), ([], []))
        hand.came(first)
        self.assertEqual(hand.text(), "xy")
        for letter in (first, other, ("took", 1, 1, 1, [])):
            self.assertEqual(hand.came(letter), ([], []))
        self.assertEqual((hand.text(), hand.seen()), ("xy", 2))

    def test_both_kinds_at_once(self):
        hand = Hand(0, "ab")
        hand.do([("keep", 2), ("put", "c")])
        hand.do([("keep", 3), ("put", "d")])
        hand.came(("took", 0, 3, 1, [("put", "z"), ("keep", 4)]))
        hand.came(("took", 0, 2, 0, []))
        told = hand.came(("took", 0, 1, 1, [("put", "y"), ("keep", 2)]))
        self.assertEqual(told, ([("ask", 0, 2, 2, [("keep", 4), ("put", "d")])],
                                [[("put", "y"), ("keep", 4)], [("put", "z"), ("keep", 5)]]))
        self.assertEqual((hand.text(), hand.seen(), hand.waiting()), ("zyabcd", 3, None))
        self.assertEqual(hand.flight(), [("keep", 5), ("put", "d")])


class NudgeTest(unittest.TestCase):
    def test_without_flight(self):
        hand = Hand(3, "ab")
        hand.came(("took", 3, 1, 0, [("keep", 2)]))
        self.assertEqual(hand.nudge(), [("again", 3, 1)])

    def test_with_flight_as_it_is_now(self):
        hand = Hand(3, "ab")
        hand.do([("keep", 2), ("put", "c")])
        hand.do([("keep", 3), ("put", "d")])
        self.assertEqual(hand.nudge(), [("again", 3, 0), ("ask", 3, 1, 0, [("keep", 2), ("put", "c")])])
        hand.came(("took", 3, 1, 0, [("put", "x"), ("keep", 2)]))
        told = [("again", 3, 1), ("ask", 3, 1, 1, [("keep", 3), ("put", "c")])]
        self.assertEqual((hand.nudge(), hand.nudge()), (told, told))


class RefusalsTest(unittest.TestCase):
    def test_no_took_letter_for_this_hand(self):
        hand = Hand(1, "ab")
        hand.do([("keep", 2), ("put", "c")])
        ahead = all_of(hand)
        good = [("keep", 2)]
        bad = other_kinds() + [0, "", "took", [], (), ("took",), ["took", 1, 1, 0, good], ("took", 1, 1, 0),
                               ("took", 1, 1, 0, good, 0), ("ask", 1, 1, 0, good), ("again", 1, 0),
                               ("Took", 1, 1, 0, good), ("took", 0, 1, 0, good), ("took", 2, 1, 0, good)]
        for thing in no_wholes():
            bad += [("took", thing, 1, 0, good), ("took", 1, thing, 0, good), ("took", 1, 1, thing, good)]
        for thing in (0, -1, -10 ** 30):
            bad.append(("took", 1, thing, 0, good))
        for thing in (-1, 8, 10 ** 30):
            bad.append(("took", 1, 1, thing, good))
        for thing in other_kinds() + [0, 1, (), []]:
            bad.append((thing, 1, 1, 0, good))
        for change in no_changes():
            bad += [("took", 1, 1, 0, change), ("took", 1, 1, 1, change), ("took", 1, 5, 0, change)]
        for number, letter in enumerate(bad):
            with self.assertRaises(BadLetter, msg=number):
                hand.came(letter)
        self.assertEqual(all_of(hand), ahead)

    def test_the_next_one_by_itself_with_nothing_in_flight(self):
        hand = Hand(1, "ab")
        ahead = all_of(hand)
        with self.assertRaises(BadLetter):
            hand.came(("took", 1, 1, 1, [("keep", 2)]))
        self.assertEqual(all_of(hand), ahead)
        self.assertEqual(hand.came(("took", 1, 1, 0, [("keep", 2)])), ([], [[("keep", 2)]]))
        # One that is known is passed over, also by itself.
        self.assertEqual(hand.came(("took", 1, 1, 1, [("keep", 2)])), ([], []))

    def test_one_that_was_kept_by_itself_with_nothing_in_flight(self):
        hand = Hand(1, "ab")
        self.assertEqual(hand.came(("took", 1, 2, 1, [("keep", 2)])), ([], []))
        ahead = all_of(hand)
        with self.assertRaises(BadLetter):
            hand.came(("took", 1, 1, 0, [("put", "x"), ("keep", 2)]))
        self.assertEqual(all_of(hand), ahead)

    def test_what_can_not_be_done_changes_nothing(self):
        hand = Hand(1, "ab")
        hand.do([("cut", "a"), ("keep", 1)])
        hand.do([("keep", 1), ("put", "c")])
        hand.came(("took", 1, 2, 0, [("keep", 3), ("put", "y")]))
        ahead = all_of(hand)
        for change in ([("keep", 1)], [("put", "x"), ("keep", 3)], [("cut", "x"), ("keep", 1)],
                       [("keep", 1), ("cut", "x")], [("keep", 2)]):
            with self.assertRaises(BadFit):
                hand.came(("took", 1, 1, 0, change))
            self.assertEqual(all_of(hand), ahead)
        told = hand.came(("took", 1, 1, 0, [("put", "x"), ("keep", 2)]))
        self.assertEqual((len(told[1]), hand.text()), (2, "xbyc"))


class OwnTest(unittest.TestCase):
    def test_what_is_handed_in_and_told(self):
        hand = Hand(1, "ab")
        change = [("keep", 2), ("put", "c")]
        told = hand.do(change)
        change.clear()
        told[0][4].clear()
        hand.flight().clear()
        more = [("keep", 3), ("put", "d")]
        hand.do(more)
        more.clear()
        hand.waiting().clear()
        hand.nudge()[1][4].clear()
        kept = ("abcd", 0, [("keep", 2), ("put", "c")], [("keep", 3), ("put", "d")])
        self.assertEqual((hand.text(), hand.seen(), hand.flight(), hand.waiting()), kept)
        letter = ("took", 1, 2, 0, [("put", "x"), ("keep", 3)])
        hand.came(letter)
        letter[4].clear()
        posted, done_to_it = hand.came(("took", 1, 1, 1, []))
        self.assertEqual(done_to_it, [[("put", "x"), ("keep", 4)]])
        posted[0][4].clear()
        done_to_it[0].clear()
        self.assertEqual((hand.text(), hand.flight()), ("xabcd", [("keep", 4), ("put", "d")]))
        self.assertEqual(hand.nudge()[1], ("ask", 1, 2, 2, [("keep", 4), ("put", "d")]))

    def test_letters_stay(self):
        hand = Hand(1, "ab")
        letter = ("took", 1, 1, 0, [("put", "x"), ("keep", 2)])
        kept = copy.deepcopy(letter)
        told = hand.came(letter)
        told[1][0].clear()
        self.assertEqual(letter, kept)

    def test_flight_told_ahead_stays(self):
        hand = Hand(1, "ab")
        asked = hand.do([("keep", 2), ("put", "c")])
        flight = hand.flight()
        hand.came(("took", 1, 1, 0, [("put", "x"), ("keep", 2)]))
        self.assertEqual(asked, [("ask", 1, 1, 0, [("keep", 2), ("put", "c")])])
        self.assertEqual(flight, [("keep", 2), ("put", "c")])


class RowsTest(unittest.TestCase):
    """Hands and a server, with letters in any order, twice or lost."""

    def assert_hand(self, server, texts, hand):
        text = texts[hand.seen()]
        for change in (hand.flight(), hand.waiting()):
            if change is not None:
                text = done(text, change)
        self.assertEqual(hand.text(), text)
        self.assertTrue(hand.waiting() is None or hand.flight() is not None)

    def deliver(self, server, hands, texts, post, letter):
        if letter[0] != "took":
            post.extend(server.came(letter))
            if server.text() != texts[-1] or server.many() == len(texts):
                texts.append(server.text())
            return
        hand = hands[letter[1]]
        text = hand.text()
        posted, changes = hand.came(letter)
        for change in changes:
            text = done(text, change)
        self.assertEqual(hand.text(), text)
        post.extend(posted)

    def test_rows(self):
        for seed in range(25):
            chance = random.Random(seed)
            many = chance.randrange(1, 5)
            text = some_text(chance, 8)
            server, hands, texts, post = Server(text, many), [Hand(number, text) for number in range(many)], [text], []
            for number in range(80):
                hand = chance.choice(hands)
                deed = chance.randrange(10)
                if deed < 4:
                    post.extend(hand.do(some_change(chance, hand.text(), parts=2)))
                elif deed == 4:
                    post.extend(hand.nudge())
                elif post:
                    place = chance.randrange(len(post))
                    letter = post[place] if deed == 5 else post.pop(place)
                    if deed != 6:
                        self.deliver(server, hands, texts, post, letter)
                for one in hands:
                    self.assert_hand(server, texts, one)
            for hand in hands:
                post.extend(hand.nudge())
            while post:
                self.deliver(server, hands, texts, post, post.pop(0))
            for hand in hands:
                self.assertEqual((hand.text(), hand.seen(), hand.flight()), (server.text(), server.many(), None))
            self.assertEqual(len(texts), server.many() + 1)


class JoinedTest(unittest.TestCase):
    def test_what_waits_is_joined(self):
        chance = random.Random(20)
        for number in range(100):
            hand = Hand(0, some_text(chance, 10))
            hand.do(some_change(chance, hand.text()))
            text, waits = hand.text(), None
            for more in range(4):
                change = some_change(chance, hand.text())
                waits = change if waits is None else then(waits, change)
                self.assertEqual(hand.do(change), [])
                self.assertEqual(hand.waiting(), waits)
                self.assertEqual(hand.text(), done(text, waits))


if __name__ == "__main__":
    unittest.main()
