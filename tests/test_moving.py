import copy
import random
import unittest

from inkloom.changes import sizes
from inkloom.errors import BadChange, BadSide, NoPlace
from inkloom.moving import moved

from samples import Odd, changes, no_changes, no_sides, no_wholes, place_behind, some_change, some_text


class MovedTest(unittest.TestCase):
    def assert_moved(self, change, lefts, rights):
        places = range(sizes(change)[0] + 1)
        self.assertEqual([moved(change, place, "left") for place in places], lefts)
        self.assertEqual([moved(change, place, "right") for place in places], rights)

    def test_signs_that_are_kept(self):
        self.assert_moved([("keep", 3)], [0, 1, 2, 3], [0, 1, 2, 3])

    def test_signs_that_are_put(self):
        self.assert_moved([("put", "xy"), ("keep", 1)], [0, 3], [2, 3])
        self.assert_moved([("keep", 1), ("put", "xy")], [0, 1], [0, 3])
        self.assert_moved([("keep", 1), ("put", "xy"), ("keep", 1)], [0, 1, 4], [0, 3, 4])

    def test_signs_that_are_cut(self):
        self.assert_moved([("keep", 1), ("cut", "bc"), ("keep", 1)], [0, 1, 1, 1, 2], [0, 1, 1, 1, 2])
        self.assert_moved([("cut", "ab"), ("keep", 1)], [0, 0, 0, 1], [0, 0, 0, 1])
        self.assert_moved([("keep", 1), ("cut", "bc")], [0, 1, 1, 1], [0, 1, 1, 1])

    def test_signs_that_are_put_and_cut(self):
        change = [("keep", 1), ("put", "xy"), ("cut", "b"), ("keep", 1)]
        self.assert_moved(change, [0, 1, 1, 4], [0, 3, 3, 4])

    def test_nothing_is_kept(self):
        self.assert_moved([("cut", "ab")], [0, 0, 0], [0, 0, 0])
        self.assert_moved([("put", "xyz"), ("cut", "ab")], [0, 0, 0], [3, 3, 3])

    def test_the_empty_text(self):
        self.assert_moved([], [0], [0])
        self.assert_moved([("put", "xy")], [0], [2])

    def test_ends_of_several_runs(self):
        change = [("cut", "a"), ("keep", 1), ("put", "x"), ("keep", 1), ("cut", "d"), ("keep", 1), ("put", "y")]
        self.assert_moved(change, [0, 0, 1, 3, 3, 4], [0, 0, 2, 3, 3, 5])

    def test_great_keeps(self):
        great = 10 ** 30
        change = [("put", "x"), ("keep", great), ("cut", "b"), ("keep", great)]
        self.assertEqual(moved(change, great, "left"), great + 1)
        self.assertEqual(moved(change, great + 1, "right"), great + 1)
        self.assertEqual(moved(change, 2 * great + 1, "right"), 2 * great + 1)
        with self.assertRaises(NoPlace):
            moved(change, 2 * great + 2, "left")

    def test_all_places_of_small_changes(self):
        for change in changes(5):
            for side in ("left", "right"):
                for place in range(sizes(change)[0] + 1):
                    told = moved(change, place, side)
                    self.assertEqual(told, place_behind(change, place, side), (change, place, side))

    def test_the_order_of_two_places_is_never_turned(self):
        chance = random.Random(7)
        for number in range(300):
            text = some_text(chance, 20)
            change = some_change(chance, text, parts=8)
            for side in ("left", "right"):
                places = [moved(change, place, side) for place in range(len(text) + 1)]
                self.assertEqual(places, sorted(places))
                self.assertEqual(places, [place_behind(change, place, side) for place in range(len(text) + 1)])
            for place in range(len(text) + 1):
                self.assertLessEqual(moved(change, place, "left"), moved(change, place, "right"))

    def test_a_side_that_is_made_of_other_texts(self):
        self.assertEqual(moved([("put", "x")], 0, "".join(["le", "ft"])), 0)
        self.assertEqual(moved([("put", "x")], 0, "".join(["ri", "ght"])), 1)

    def test_what_is_no_place(self):
        for change in ([], [("keep", 2)], [("cut", "a"), ("keep", 1), ("put", "xyz")]):
            over = sizes(change)[0]
            for place in [-1, -2, over + 1, over + 2, 10 ** 30, -10 ** 30] + no_wholes():
                for side in ("left", "right"):
                    with self.assertRaises(NoPlace):
                        moved(change, place, side)

    def test_what_is_no_side(self):
        for number, side in enumerate(no_sides()):
            with self.assertRaises(BadSide, msg=number):
                moved([("keep", 2)], 1, side)

    def test_what_is_no_change(self):
        for number, change in enumerate(no_changes()):
            with self.assertRaises(BadChange, msg=number):
                moved(change, 0, "left")

    def test_the_order_of_refusals(self):
        for change in (None, [("keep", 0)], Odd(), [("cut", "a"), ("put", "b")]):
            for place in (-1, None, Odd(), 9):
                with self.assertRaises(BadChange):
                    moved(change, place, Odd())
        for place in (-1, 3, True, None, Odd(), "0", (), [], {}):
            for side in ("", None, Odd(), "Left"):
                with self.assertRaises(NoPlace):
                    moved([("keep", 2)], place, side)

    def test_the_change_stays(self):
        change = [("keep", 1), ("put", "xy"), ("cut", "b"), ("keep", 1)]
        kept = copy.deepcopy(change)
        for place in (0, 1, 2, 3):
            moved(change, place, "left")
            moved(change, place, "right")
        for place, side in ((9, "left"), (0, "up")):
            with self.assertRaises((NoPlace, BadSide)):
                moved(change, place, side)
        self.assertEqual(change, kept)


if __name__ == "__main__":
    unittest.main()
