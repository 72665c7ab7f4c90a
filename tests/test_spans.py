import copy
import random
import unittest

from inkloom.changes import done
from inkloom.errors import BadChange, BadFit, BadSide, NoMark, NoPlace
from inkloom.spans import Spans

from samples import Odd, no_changes, no_wholes, other_kinds, place_behind, some_change, some_text

GREAT = 10 ** 12
SIDES = {True: ("left", "right"), False: ("right", "left")}


def spans_of(size, *stands):
    spans = Spans(size)
    for begin, end, grows in stands:
        spans.add(begin, end, grows)
    return spans


def all_of(spans):
    told = [(number, spans.told(number)) for number in spans.numbers()]
    return spans.size(), told, [spans.at(place) for place in range(spans.size())], spans.bounds()


def plainly(size, plain):
    """The same, of a dict of numbers with begins, ends, and whether they grow."""
    told = []
    for number in sorted(plain):
        begin, end, grows = plain[number]
        told.append((number, (begin, end) if begin <= end else (end, end)))
    ats = [[number for number, span in told if place in range(*span)] for place in range(size)]
    bounds = {place for number, span in told if span[0] != span[1] for place in span}
    return size, told, ats, sorted(bounds)


class SpansTest(unittest.TestCase):
    def test_new_ones(self):
        for size in (0, 1, 7):
            self.assertEqual(all_of(Spans(size)), (size, [], [[]] * size, []))
        self.assertEqual(Spans(GREAT).size(), GREAT)

    def test_what_is_no_size(self):
        for thing in [-1, -GREAT] + no_wholes():
            with self.assertRaises(NoPlace):
                Spans(thing)

    def test_add_and_told(self):
        spans = Spans(4)
        told = [spans.add(1, 3, True), spans.add(0, 0, False), spans.add(4, 4, True), spans.add(0, 4, False)]
        self.assertEqual(told, [0, 1, 2, 3])
        self.assertEqual([spans.told(number) for number in told], [(1, 3), (0, 0), (4, 4), (0, 4)])
        self.assertIsInstance(spans.told(0), tuple)

    def test_add_refuses(self):
        spans = spans_of(4, (1, 3, True))
        ahead = all_of(spans)
        for begin, end in [(-1, 0), (0, 5), (3, 2), (5, 5), (4, 0), (-2, -1)]:
            for grows in (True, False, None, Odd()):
                with self.assertRaises(NoPlace, msg=(begin, end)):
                    spans.add(begin, end, grows)
        for thing in no_wholes():
            for begin, end in [(thing, 4), (0, thing), (thing, thing), (9, thing)]:
                with self.assertRaises(NoPlace):
                    spans.add(begin, end, Odd())
        bad = [thing for thing in other_kinds() if thing is not True and thing is not False]
        for thing in bad + [0, 1, "", "True", "left", (), [], [True]]:
            with self.assertRaises(BadSide):
                spans.add(1, 2, thing)
        self.assertEqual(all_of(spans), ahead)
        self.assertEqual(spans.add(0, 0, True), 1)

    def test_a_span_that_grows(self):
        spans = spans_of(4, (1, 3, True))
        spans.changed([("keep", 1), ("put", "x"), ("keep", 2), ("put", "yz"), ("keep", 1)])
        self.assertEqual(spans.told(0), (1, 6))
        spans.changed([("cut", "ax"), ("keep", 5)])
        self.assertEqual(spans.told(0), (0, 4))

    def test_a_span_that_does_not_grow(self):
        spans = spans_of(4, (1, 3, False))
        spans.changed([("keep", 1), ("put", "x"), ("keep", 2), ("put", "yz"), ("keep", 1)])
        self.assertEqual(spans.told(0), (2, 4))

    def test_empty_ones(self):
        spans = spans_of(2, (1, 1, True), (1, 1, False))
        self.assertEqual((spans.at(0), spans.at(1), spans.bounds()), ([], [], []))
        spans.changed([("keep", 1), ("put", "xy"), ("keep", 1)])
        self.assertEqual((spans.told(0), spans.told(1)), ((1, 3), (1, 1)))
        self.assertEqual(spans.bounds(), [1, 3])

    def test_a_begin_behind_the_end_goes_on_being_moved_as_it_is(self):
        spans = spans_of(2, (1, 1, False))
        spans.changed([("keep", 1), ("put", "xy"), ("keep", 1)])
        # The begin stands at 3 now, the end at 1.
        self.assertEqual(spans.told(0), (1, 1))
        spans.changed([("keep", 1), ("cut", "x"), ("keep", 2)])
        self.assertEqual(spans.told(0), (1, 1))
        spans.changed([("put", "w"), ("keep", 3)])
        self.assertEqual(spans.told(0), (2, 2))
        spans.changed([("keep", 2), ("cut", "y"), ("keep", 1)])
        # Both stand at 2 again: from here they are parted once more.
        spans.changed([("keep", 2), ("put", "v"), ("keep", 1)])
        self.assertEqual((spans.told(0), spans.at(2)), ((2, 2), []))

    def test_covered_signs_are_cut(self):
        spans = spans_of(5, (1, 4, True), (1, 4, False), (0, 5, True))
        spans.changed([("keep", 1), ("cut", "bcd"), ("keep", 1)])
        self.assertEqual([spans.told(number) for number in range(3)], [(1, 1), (1, 1), (0, 2)])
        self.assertEqual((spans.at(0), spans.at(1), spans.bounds()), ([2], [2], [0, 2]))

    def test_at(self):
        spans = spans_of(5, (3, 5, True), (1, 3, False), (2, 2, True), (0, 5, True), (2, 4, False))
        self.assertEqual([spans.at(place) for place in range(5)], [[3], [1, 3], [1, 3, 4], [0, 3, 4], [0, 3]])

    def test_at_refuses(self):
        for size in (0, 3):
            spans = spans_of(size, (0, size, True))
            for thing in [-1, size, size + 1, GREAT] + no_wholes():
                with self.assertRaises(NoPlace):
                    spans.at(thing)

    def test_bounds(self):
        spans = spans_of(9, (3, 5, True), (5, 8, False), (3, 5, False), (7, 7, True), (0, 0, False))
        self.assertEqual(spans.bounds(), [3, 5, 8])
        spans.drop(1)
        self.assertEqual(spans.bounds(), [3, 5])

    def test_drop(self):
        spans = spans_of(3, (0, 1, True), (1, 2, True), (2, 3, True))
        self.assertIsNone(spans.drop(1))
        self.assertEqual(spans.numbers(), [0, 2])
        for ask in (spans.drop, spans.told):
            with self.assertRaises(NoMark):
                ask(1)
        spans.drop(2)
        self.assertEqual((spans.add(0, 0, True), spans.numbers()), (3, [0, 3]))

    def test_what_is_no_span(self):
        spans = spans_of(3, (0, 1, True), (1, 2, True))
        ahead = all_of(spans)
        for thing in [-1, 2, GREAT] + no_wholes():
            for ask in (spans.drop, spans.told):
                with self.assertRaises(NoMark):
                    ask(thing)
        self.assertEqual(all_of(spans), ahead)

    def test_rows_of_changes_beside_plain_places(self):
        for seed in range(10):
            chance = random.Random(seed)
            text = some_text(chance, 20)
            spans, plain = Spans(len(text)), {}
            for number in range(60):
                for more in range(chance.randrange(3)):
                    begin = chance.randrange(len(text) + 1)
                    end, grows = chance.randrange(begin, len(text) + 1), chance.choice([True, False])
                    plain[spans.add(begin, end, grows)] = (begin, end, grows)
                if plain and not chance.randrange(3):
                    gone = chance.choice(list(plain))
                    spans.drop(gone)
                    plain.pop(gone)
                change = some_change(chance, text, parts=6)
                text = done(text, change)
                self.assertIsNone(spans.changed(change))
                for key, (begin, end, grows) in list(plain.items()):
                    ones, others = SIDES[grows]
                    plain[key] = (place_behind(change, begin, ones), place_behind(change, end, others), grows)
                self.assertEqual(all_of(spans), plainly(len(text), plain))

    def test_great_sizes(self):
        spans = spans_of(GREAT, (0, GREAT, True), (GREAT - 1, GREAT, False))
        spans.changed([("put", "x"), ("keep", GREAT), ("put", "y")])
        self.assertEqual((spans.told(0), spans.told(1)), ((0, GREAT + 2), (GREAT, GREAT + 1)))
        self.assertEqual((spans.at(GREAT), spans.at(GREAT + 1)), ([0, 1], [0]))
        self.assertEqual(spans.bounds(), [0, GREAT, GREAT + 1, GREAT + 2])

    def test_changed_refuses(self):
        spans = spans_of(2, (0, 1, True), (1, 2, False))
        ahead = all_of(spans)
        for number, thing in enumerate(no_changes()):
            with self.assertRaises(BadChange, msg=number):
                spans.changed(thing)
        for change in ([], [("keep", 1)], [("keep", 3)], [("put", "ab")], [("cut", "abc")]):
            with self.assertRaises(BadFit, msg=change):
                spans.changed(change)
        with self.assertRaises(BadChange):
            spans.changed([("keep", 3), ("keep", 0)])
        self.assertEqual(all_of(spans), ahead)

    def test_what_is_handed_in_and_told(self):
        spans = spans_of(2, (0, 1, True), (1, 2, False))
        change = [("put", "x"), ("keep", 2)]
        kept = copy.deepcopy(change)
        spans.changed(change)
        self.assertEqual(change, kept)
        change.clear()
        ahead = all_of(spans)
        spans.numbers().clear()
        spans.at(0).append(7)
        spans.bounds().append(7)
        self.assertEqual(all_of(spans), ahead)
        numbers, bounds, at = spans.numbers(), spans.bounds(), spans.at(1)
        spans.drop(0)
        self.assertEqual((numbers, bounds, at), ([0, 1], [0, 2, 3], [0]))

    def test_two_of_them_know_nothing_of_one_another(self):
        one, other = Spans(3), Spans(3)
        one.add(1, 2, True)
        self.assertEqual((other.numbers(), other.add(2, 3, True)), ([], 0))
        one.changed([("cut", "abc")])
        self.assertEqual((other.told(0), other.size()), ((2, 3), 3))


if __name__ == "__main__":
    unittest.main()
