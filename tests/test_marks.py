import copy
import random
import unittest

from inkloom.changes import done
from inkloom.errors import BadChange, BadFit, BadSide, NoMark, NoPlace
from inkloom.marks import Marks
from inkloom.moving import moved

from samples import Odd, no_changes, no_sides, no_wholes, place_behind, some_change, some_text

GREAT = 10 ** 12


def marks_at(size, *stands):
    marks = Marks(size)
    for place, side in stands:
        marks.add(place, side)
    return marks


def all_of(marks):
    """All that marks tell of themselves."""
    rows = [(number, marks.place(number), marks.side(number)) for number in marks.numbers()]
    return marks.size(), rows, marks.within(0, marks.size())


class MarksTest(unittest.TestCase):
    def test_new_ones(self):
        for size in (0, 1, 7, GREAT):
            marks = Marks(size)
            self.assertEqual((marks.size(), marks.numbers(), marks.within(0, size)), (size, [], []))

    def test_what_is_no_size(self):
        for thing in [-1, -GREAT] + no_wholes():
            with self.assertRaises(NoPlace):
                Marks(thing)

    def test_add(self):
        marks = Marks(3)
        self.assertEqual([marks.add(3, "left"), marks.add(0, "right"), marks.add(3, "left")], [0, 1, 2])
        self.assertEqual([marks.place(number) for number in (0, 1, 2)], [3, 0, 3])
        self.assertEqual([marks.side(number) for number in (0, 1, 2)], ["left", "right", "left"])
        self.assertEqual(marks.numbers(), [0, 1, 2])

    def test_add_refuses(self):
        marks = marks_at(3, (1, "left"))
        ahead = all_of(marks)
        for place in [-1, 4, GREAT] + no_wholes():
            for side in ("left", "up", None, Odd()):
                with self.assertRaises(NoPlace):
                    marks.add(place, side)
        for side in no_sides():
            with self.assertRaises(BadSide):
                marks.add(1, side)
        self.assertEqual(all_of(marks), ahead)
        self.assertEqual(marks.add(0, "left"), 1)

    def test_drop(self):
        marks = marks_at(3, (1, "left"), (2, "right"), (3, "left"))
        self.assertIsNone(marks.drop(1))
        self.assertEqual(marks.numbers(), [0, 2])
        self.assertEqual(marks.within(0, 3), [0, 2])
        for ask in (marks.drop, marks.place, marks.side):
            with self.assertRaises(NoMark):
                ask(1)
        marks.drop(2)
        self.assertEqual(marks.add(0, "left"), 3)
        self.assertEqual(marks.numbers(), [0, 3])
        marks.drop(0)
        marks.drop(3)
        self.assertEqual((marks.numbers(), marks.add(0, "left")), ([], 4))

    def test_what_is_no_mark(self):
        marks = marks_at(3, (1, "left"), (2, "right"))
        ahead = all_of(marks)
        for thing in [-1, 2, GREAT] + no_wholes():
            for ask in (marks.drop, marks.place, marks.side):
                with self.assertRaises(NoMark):
                    ask(thing)
        with self.assertRaises(NoMark):
            Marks(0).place(0)
        self.assertEqual(all_of(marks), ahead)

    def test_within(self):
        marks = marks_at(5, (4, "left"), (2, "right"), (2, "left"), (0, "left"), (5, "right"), (2, "right"))
        self.assertEqual(marks.within(0, 5), [3, 1, 2, 5, 0, 4])
        self.assertEqual(marks.within(2, 2), [1, 2, 5])
        self.assertEqual(marks.within(2, 4), [1, 2, 5, 0])
        self.assertEqual((marks.within(1, 1), marks.within(0, 0), marks.within(5, 5)), ([], [3], [4]))

    def test_within_refuses(self):
        marks = marks_at(5, (4, "left"))
        for begin, end in [(-1, 0), (0, 6), (3, 2), (6, 6), (5, 4), (-2, -1)]:
            with self.assertRaises(NoPlace, msg=(begin, end)):
                marks.within(begin, end)
        for number, thing in enumerate(no_wholes()):
            for begin, end in [(thing, 5), (0, thing), (thing, thing), (9, thing), (thing, -1)]:
                with self.assertRaises(NoPlace, msg=number):
                    marks.within(begin, end)

    def test_changed(self):
        marks = marks_at(2, (0, "left"), (0, "right"), (1, "left"), (1, "right"), (2, "left"), (2, "right"))
        change = [("put", "x"), ("keep", 1), ("put", "yz"), ("keep", 1), ("put", "w")]
        self.assertIsNone(marks.changed(change))
        self.assertEqual([marks.place(number) for number in range(6)], [0, 1, 2, 4, 5, 6])
        self.assertEqual(marks.size(), 6)
        marks.changed([("keep", 1), ("cut", "a"), ("keep", 1), ("cut", "zb"), ("keep", 1)])
        self.assertEqual([marks.place(number) for number in range(6)], [0, 1, 1, 2, 2, 3])
        self.assertEqual(marks.size(), 3)

    def test_a_change_to_no_signs(self):
        marks = marks_at(2, (0, "left"), (1, "right"), (2, "left"))
        marks.changed([("cut", "ab")])
        self.assertEqual(([marks.place(number) for number in range(3)], marks.size()), ([0, 0, 0], 0))

    def test_rows_of_changes_beside_moved(self):
        for seed in range(10):
            chance = random.Random(seed)
            text = some_text(chance, 20)
            marks, plain = Marks(len(text)), {}
            for number in range(60):
                for more in range(chance.randrange(3)):
                    place, side = chance.randrange(len(text) + 1), chance.choice(["left", "right"])
                    plain[marks.add(place, side)] = (place, side)
                if plain and not chance.randrange(3):
                    gone = chance.choice(list(plain))
                    marks.drop(gone)
                    plain.pop(gone)
                change = some_change(chance, text, parts=6)
                text = done(text, change)
                marks.changed(change)
                for key, (place, side) in list(plain.items()):
                    self.assertEqual(moved(change, place, side), place_behind(change, place, side))
                    plain[key] = (moved(change, place, side), side)
                rows = [(key, plain[key][0], plain[key][1]) for key in sorted(plain)]
                order = [key for place, key in sorted((plain[key][0], key) for key in plain)]
                self.assertEqual(all_of(marks), (len(text), rows, order))

    def test_change_by_change_is_not_the_joined_change(self):
        marks = marks_at(2, (1, "right"))
        marks.changed([("keep", 1), ("put", "x"), ("keep", 1)])
        marks.changed([("keep", 1), ("put", "y"), ("keep", 2)])
        self.assertEqual(marks.place(0), 3)
        marks.changed([("cut", "ayx"), ("keep", 1)])
        marks.changed([("put", "a"), ("keep", 1)])
        self.assertEqual(marks.place(0), 1)

    def test_great_sizes(self):
        marks = marks_at(GREAT, (0, "left"), (GREAT, "right"), (GREAT // 2, "left"))
        change = [("keep", GREAT // 2), ("put", "x"), ("keep", GREAT // 2), ("put", "y")]
        marks.changed(change)
        self.assertEqual([marks.place(number) for number in (0, 1, 2)], [0, GREAT + 2, GREAT // 2])
        self.assertEqual(marks.size(), GREAT + 2)
        self.assertEqual(marks.within(1, GREAT + 2), [2, 1])

    def test_many_marks_and_parts(self):
        marks = Marks(9000)
        for place in range(9001):
            marks.add(place, "right")
        marks.changed([("cut", "a"), ("keep", 1), ("put", "xy"), ("keep", 1)] * 3000)
        self.assertEqual(marks.size(), 12000)
        self.assertEqual([marks.place(number) for number in range(7)], [0, 0, 3, 4, 4, 7, 8])

    def test_changed_refuses(self):
        marks = marks_at(2, (1, "left"), (2, "right"))
        ahead = all_of(marks)
        for number, thing in enumerate(no_changes()):
            with self.assertRaises(BadChange, msg=number):
                marks.changed(thing)
        for change in ([], [("keep", 1)], [("keep", 3)], [("put", "ab")], [("cut", "abc")]):
            with self.assertRaises(BadFit, msg=change):
                marks.changed(change)
        with self.assertRaises(BadChange):
            marks.changed([("keep", 3), ("keep", 0)])
        self.assertEqual(all_of(marks), ahead)

    def test_what_is_handed_in_and_told(self):
        marks = marks_at(2, (1, "left"), (2, "right"))
        change = [("put", "x"), ("keep", 2)]
        kept = copy.deepcopy(change)
        marks.changed(change)
        self.assertEqual(change, kept)
        change.clear()
        ahead = all_of(marks)
        marks.numbers().clear()
        marks.within(0, 3).append(7)
        self.assertEqual(all_of(marks), ahead)
        numbers, within = marks.numbers(), marks.within(0, 3)
        marks.drop(0)
        self.assertEqual((numbers, within), ([0, 1], [0, 1]))

    def test_two_of_them_know_nothing_of_one_another(self):
        one, other = Marks(3), Marks(3)
        one.add(1, "left")
        self.assertEqual((other.numbers(), other.add(2, "left")), ([], 0))
        one.changed([("cut", "abc")])
        self.assertEqual((other.place(0), other.size()), (2, 3))


if __name__ == "__main__":
    unittest.main()
