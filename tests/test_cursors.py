import copy
import itertools
import random
import unittest

from inkloom.changes import sizes
from inkloom.cursors import carried, need_cursors, settled
from inkloom.errors import BadChange, NoCursor

from samples import Odd, no_changes, no_wholes, other_kinds, pair_meets, place_behind, settled_plainly
from samples import some_change, some_text


def are_cursors(size, cursors):
    """Whether these are cursors of a text, each a tuple of three whole numbers or None."""
    places = [place for cursor in cursors for place in cursor[:2]]
    begins = [min(cursor[:2]) for cursor in cursors]
    apart = not any(pair_meets(one, other) for one, other in zip(cursors, cursors[1:]))
    goals = all(cursor[2] is None or cursor[2] >= 0 for cursor in cursors)
    return 1 <= len(cursors) <= 40 and all(0 <= place <= size for place in places) and begins == sorted(begins) \
        and apart and goals


def fresh(cursors):
    """The same ones, each a tuple of its own."""
    return [tuple(list(cursor)) for cursor in cursors]


class NeedCursorsTest(unittest.TestCase):
    def assert_none(self, size, cursors, message=None):
        with self.assertRaises(NoCursor, msg=message):
            need_cursors(size, cursors)

    def test_good_ones(self):
        for size, cursors in [(0, [(0, 0, None)]), (3, [(3, 0, 7)]), (3, [(0, 0, 0), (1, 1, None), (2, 3, 5)]),
                              (4, [(0, 2, None), (2, 4, None)]), (4, [(2, 0, None), (4, 2, None)]),
                              (10 ** 12, [(10 ** 12, 10 ** 12, 10 ** 30)]), (2, [(0, 1, None), (2, 2, None)])]:
            self.assertIsNone(need_cursors(size, cursors), cursors)

    def test_forty_and_forty_one(self):
        self.assertIsNone(need_cursors(40, [(place, place, None) for place in range(40)]))
        self.assert_none(40, [(place, place, None) for place in range(41)])
        self.assert_none(40, [])

    def test_places_beyond_the_text(self):
        for cursor in [(-1, 0, None), (0, -1, None), (4, 0, None), (0, 4, None), (4, 4, None)]:
            self.assert_none(3, [cursor])
        self.assert_none(0, [(0, 1, None)])

    def test_neighbours_that_meet(self):
        for cursors in [[(0, 2, None), (1, 3, None)], [(0, 2, None), (2, 2, None)], [(2, 2, None), (2, 4, None)],
                        [(1, 1, None), (1, 1, None)], [(0, 4, None), (1, 2, None)], [(0, 2, None), (0, 3, None)],
                        [(0, 1, None), (2, 2, None), (2, 2, None)], [(2, 0, None), (2, 2, None)]]:
            self.assert_none(4, cursors, cursors)

    def test_ones_that_do_not_rise(self):
        for cursors in [[(2, 3, None), (0, 1, None)], [(1, 1, None), (0, 0, None)], [(2, 4, None), (0, 2, None)],
                        [(2, 4, None), (2, 2, None)], [(0, 0, None), (3, 3, None), (2, 2, None)]]:
            self.assert_none(4, cursors, cursors)

    def test_all_small_pairs_and_threes(self):
        single = [(anchor, head, None) for anchor in range(4) for head in range(4)]
        for row in [[one] for one in single] + [list(row) for row in itertools.product(single, repeat=2)]:
            if are_cursors(2, row):
                self.assertIsNone(need_cursors(2, row), row)
            else:
                self.assert_none(2, row, row)
        for row in itertools.product(single[::2], repeat=3):
            if are_cursors(3, row):
                self.assertIsNone(need_cursors(3, list(row)), row)
            else:
                self.assert_none(3, list(row), row)

    def test_whatever_are_no_cursors(self):
        for thing in other_kinds() + [0, "", "a", (), (0, 0, None), ((0, 0, None),), {}, {(0, 0, None): 1}]:
            self.assert_none(3, thing)
        bad = [0, "", "abc", (), [], [0, 0, None], (0, 0), (0,), (0, 0, None, None), ((0, 0, None),)]
        for thing in other_kinds() + bad:
            self.assert_none(3, [thing])
            self.assert_none(3, [(0, 0, None), thing])
            self.assert_none(3, [thing, (3, 3, None)])

    def test_parts_of_other_kinds(self):
        for thing in no_wholes():
            self.assert_none(3, [(thing, 0, None)])
            self.assert_none(3, [(0, thing, None)])
            if thing is not None:
                self.assert_none(3, [(0, 0, thing)])
                self.assert_none(3, [(0, 0, None), (1, 2, thing)])
        self.assert_none(3, [(0, 0, -1)])

    def test_they_stay(self):
        cursors = [(0, 2, 3), (3, 3, None)]
        need_cursors(3, cursors)
        self.assertEqual(cursors, [(0, 2, 3), (3, 3, None)])


class SettledTest(unittest.TestCase):
    def test_ones_that_stand_apart_stay_as_they_are(self):
        for cursors in [[(0, 0, None)], [(3, 1, 7)], [(0, 1, 2), (3, 2, 4)], [(0, 2, 1), (2, 4, None)],
                        [(1, 1, 5), (2, 2, 6)]]:
            self.assertEqual(settled(cursors), cursors)

    def test_any_order(self):
        self.assertEqual(settled([(5, 5, 1), (0, 1, 2), (3, 2, 3)]), [(0, 1, 2), (3, 2, 3), (5, 5, 1)])

    def test_empty_ones(self):
        self.assertEqual(settled([(1, 1, 3), (1, 1, 4)]), [(1, 1, None)])
        self.assertEqual(settled([(1, 1, 3), (1, 3, 4)]), [(1, 3, None)])
        self.assertEqual(settled([(3, 3, 3), (1, 3, 4)]), [(1, 3, None)])
        self.assertEqual(settled([(2, 2, 3), (1, 3, 4)]), [(1, 3, None)])
        self.assertEqual(settled([(1, 1, 3), (2, 3, 4)]), [(1, 1, 3), (2, 3, 4)])

    def test_ones_that_touch(self):
        self.assertEqual(settled([(0, 2, 1), (2, 4, 2)]), [(0, 2, 1), (2, 4, 2)])
        self.assertEqual(settled([(0, 2, 1), (2, 4, 2), (2, 2, 3)]), [(0, 2, None), (2, 4, 2)])

    def test_what_was_gathered_meets_what_comes_next(self):
        self.assertEqual(settled([(0, 5, 1), (1, 2, 2), (4, 8, 3), (8, 9, 4)]), [(0, 8, None), (8, 9, 4)])
        self.assertEqual(settled([(1, 1, 1), (1, 1, 2), (1, 3, 3), (3, 4, 4)]), [(1, 3, None), (3, 4, 4)])

    def test_the_first_of_the_list_tells_the_way(self):
        self.assertEqual(settled([(3, 0, 1), (2, 5, 2)]), [(5, 0, None)])
        self.assertEqual(settled([(2, 5, 1), (3, 0, 2)]), [(0, 5, None)])
        self.assertEqual(settled([(5, 2, 1), (0, 3, 2)]), [(5, 0, None)])
        self.assertEqual(settled([(0, 3, 1), (5, 2, 2)]), [(0, 5, None)])
        self.assertEqual(settled([(2, 2, 1), (5, 0, 2)]), [(0, 5, None)])
        self.assertEqual(settled([(9, 9, 0), (5, 0, 2), (2, 2, 1)]), [(5, 0, None), (9, 9, 0)])

    def test_all_small_rows(self):
        single = [(anchor, head, anchor + 10 * head) for anchor in range(3) for head in range(3)]
        for many in (1, 2, 3):
            for row in itertools.product(single, repeat=many):
                row = fresh(row)
                self.assertEqual(settled(row), settled_plainly(row), row)

    def test_long_rows(self):
        chance = random.Random(13)
        for number in range(400):
            row = []
            for more in range(chance.randrange(1, 60)):
                anchor = chance.randrange(60)
                head = max(0, anchor + chance.choice([0, 0, 1, 2, 3, -1, -2, -3]))
                row.append((anchor, head, chance.choice([None, 4])))
            told = settled(row)
            self.assertEqual(told, settled_plainly(row))
            self.assertEqual(settled(told), told)
            if len(told) <= 40:
                self.assertIsNone(need_cursors(70, told))

    def test_more_than_forty_stay(self):
        row = [(place, place, None) for place in range(50)]
        self.assertEqual(settled(row[::-1]), row)

    def test_what_is_handed_in_and_told(self):
        row = [(5, 5, None), (0, 1, 2)]
        kept = copy.deepcopy(row)
        told = settled(row)
        self.assertEqual(row, kept)
        told.clear()
        self.assertEqual((row, settled(row)), (kept, kept[::-1]))
        row = [(0, 1, 2)]
        told = settled(row)
        row.append((7, 7, None))
        self.assertEqual(told, [(0, 1, 2)])


class CarriedTest(unittest.TestCase):
    def test_ordinary_ones(self):
        change = [("put", "xy"), ("keep", 2), ("cut", "c"), ("keep", 1)]
        told = carried(change, [(0, 0, 3), (1, 3, None), (4, 4, 4)])
        self.assertEqual(told, [(0, 0, None), (3, 4, None), (5, 5, None)])

    def test_left_of_what_is_put_there(self):
        self.assertEqual(carried([("keep", 1), ("put", "x"), ("keep", 1)], [(1, 1, None)]), [(1, 1, None)])
        self.assertEqual(carried([("keep", 1), ("put", "x"), ("keep", 1)], [(2, 1, None)]), [(3, 1, None)])

    def test_they_are_settled(self):
        self.assertEqual(carried([("keep", 1), ("cut", "bc"), ("keep", 1)], [(1, 1, 2), (3, 2, 3), (4, 4, 4)]),
                         [(1, 1, None), (2, 2, None)])
        self.assertEqual(carried([("cut", "ab"), ("keep", 2)], [(1, 0, None), (4, 2, 1)]), [(0, 2, None)])

    def test_the_order_of_the_list_tells_the_way(self):
        self.assertEqual(carried([("keep", 1), ("cut", "b"), ("keep", 2)], [(2, 0, None), (4, 4, 1)]),
                         [(1, 0, None), (3, 3, None)])

    def test_a_change_that_keeps_all(self):
        self.assertEqual(carried([("keep", 4)], [(2, 0, 7), (4, 4, 1)]), [(2, 0, None), (4, 4, None)])
        self.assertEqual(carried([], [(0, 0, 7)]), [(0, 0, None)])

    def test_rows_beside_plain_places(self):
        chance = random.Random(14)
        for number in range(300):
            text = some_text(chance, 20)
            places = [chance.randrange(len(text) + 1) for more in range(chance.randrange(1, 12))]
            cursors = settled([(place, min(len(text), place + chance.randrange(3)), None) for place in places])
            change = some_change(chance, text)
            told = [(place_behind(change, anchor, "left"), place_behind(change, head, "left"), None)
                    for anchor, head, goal in cursors]
            self.assertEqual(carried(change, cursors), settled_plainly(told))
            self.assertIsNone(need_cursors(sizes(change)[1], carried(change, cursors)))

    def test_refusals(self):
        for number, change in enumerate(no_changes()):
            for cursors in ([(0, 0, None)], None, Odd(), []):
                with self.assertRaises(BadChange, msg=number):
                    carried(change, cursors)
        for cursors in ([], None, Odd(), [(0, 2, None), (1, 3, None)], [(4, 4, None)], [(0, 0)], [(True, 0, None)],
                        ((0, 0, None),), [(place, place, None) for place in range(41)]):
            with self.assertRaises(NoCursor):
                carried([("keep", 3)], cursors)
        with self.assertRaises(NoCursor):
            carried([("put", "abc")], [(1, 1, None)])

    def test_what_is_handed_in_stays(self):
        change, cursors = [("put", "x"), ("keep", 2)], [(0, 1, 4), (2, 2, None)]
        kept = copy.deepcopy((change, cursors))
        carried(change, cursors).clear()
        self.assertEqual((change, cursors), kept)
        self.assertEqual(carried(change, cursors), [(0, 2, None), (3, 3, None)])


if __name__ == "__main__":
    unittest.main()
