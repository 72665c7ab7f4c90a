import copy
import itertools
import random
import unittest

from inkloom.changes import back, done, need_change, sizes
from inkloom.errors import BadChange, BadFit
from inkloom.joining import then

from samples import Odd, behind, changes, changes_of, neatened, no_changes, some_change, some_text


def signs_behind(ahead, change, cuts):
    """Signs behind a change, old ones as numbers; cuts of old ones are noted; None where it does not fit."""
    ahead = list(ahead)
    told = []
    for word, what in change:
        if word == "put":
            told += what
            continue
        for sign in [None] * what if word == "keep" else what:
            if not ahead:
                return None
            stood = ahead.pop(0)
            if word == "keep":
                told.append(stood)
            elif isinstance(stood, int):
                cuts[stood] = sign
            elif stood != sign:
                return None
    return None if ahead else told


def one_of_both(one, other):
    """Both as one change, sign by sign; None where they don't fit."""
    cuts = {}
    over = sum(what if word == "keep" else len(what) for word, what in one if word != "put")
    stands = signs_behind(signs_behind(range(over), one, cuts), other, cuts)
    if stands is None:
        return None
    parts = []
    number = 0
    for sign in stands + [over]:
        if isinstance(sign, str):
            parts.append(("put", sign))
            continue
        while number < sign:
            parts.append(("cut", cuts[number]))
            number += 1
        parts.append(("keep", 0 if sign == over else 1))
        number += 1
    return neatened(parts)


class ThenTest(unittest.TestCase):
    def test_ordinary_ones(self):
        self.assertEqual(then([("keep", 2)], [("keep", 2)]), [("keep", 2)])
        self.assertEqual(then([("put", "x"), ("keep", 2)], [("keep", 1), ("cut", "a"), ("keep", 1)]),
                         [("put", "x"), ("cut", "a"), ("keep", 1)])
        self.assertEqual(then([("keep", 1), ("put", "xy"), ("keep", 1)], [("keep", 2), ("put", "z"), ("keep", 2)]),
                         [("keep", 1), ("put", "xzy"), ("keep", 1)])
        self.assertEqual(then([("cut", "a"), ("keep", 1)], [("cut", "b")]), [("cut", "ab")])
        self.assertEqual(then([("keep", 1), ("put", "xyz")], [("keep", 2), ("cut", "y"), ("keep", 1)]),
                         [("keep", 1), ("put", "xz")])

    def test_what_is_put_and_cut_again_is_gone(self):
        self.assertEqual(then([("put", "x")], [("cut", "x")]), [])
        self.assertEqual(then([("keep", 1), ("put", "x"), ("keep", 1)], [("keep", 1), ("cut", "x"), ("keep", 1)]),
                         [("keep", 2)])
        self.assertEqual(then([("put", "xy"), ("cut", "a")], [("put", "z"), ("cut", "xy")]),
                         [("put", "z"), ("cut", "a")])

    def test_what_is_cut_and_put_again_stays_both(self):
        self.assertEqual(then([("cut", "a")], [("put", "a")]), [("put", "a"), ("cut", "a")])

    def test_the_empty_text(self):
        self.assertEqual(then([], []), [])
        self.assertEqual(then([], [("put", "a")]), [("put", "a")])
        self.assertEqual(then([("cut", "a")], []), [("cut", "a")])

    def test_puts_stand_ahead_of_all_cuts_between_two_kept_signs(self):
        one = [("keep", 1), ("cut", "b"), ("keep", 1), ("put", "x"), ("cut", "d"), ("keep", 1)]
        other = [("keep", 1), ("put", "y"), ("cut", "c"), ("keep", 1), ("put", "z"), ("keep", 1)]
        self.assertEqual(then(one, other), [("keep", 1), ("put", "yxz"), ("cut", "bcd"), ("keep", 1)])

    def test_cuts_at_the_end_and_at_the_begin(self):
        self.assertEqual(then([("keep", 1), ("cut", "bc")], [("put", "x"), ("keep", 1), ("put", "y")]),
                         [("put", "x"), ("keep", 1), ("put", "y"), ("cut", "bc")])
        self.assertEqual(then([("cut", "bc"), ("keep", 1)], [("put", "x"), ("keep", 1)]),
                         [("put", "x"), ("cut", "bc"), ("keep", 1)])

    def test_great_keeps(self):
        great = 10 ** 30
        self.assertEqual(then([("keep", great), ("put", "ab")], [("put", "c"), ("keep", great + 1), ("cut", "b")]),
                         [("put", "c"), ("keep", great), ("put", "a")])

    def test_all_small_pairs(self):
        for one, other in itertools.product(changes(3), changes(3)):
            told = one_of_both(one, other)
            if told is None:
                with self.assertRaises(BadFit, msg=(one, other)):
                    then(one, other)
            else:
                self.assertEqual(then(one, other), told, (one, other))
                self.assertIsNone(need_change(told))

    def test_all_pairs_of_changes_of_small_texts(self):
        for text in ("", "a", "ab"):
            for one in changes_of(text, ["x"]):
                for other in changes_of(done(text, one), ["y"])[::3]:
                    told = then(one, other)
                    self.assertEqual(told, one_of_both(one, other), (one, other))
                    self.assertEqual(done(text, told), behind(behind(text, one), other))

    def test_rows_of_three(self):
        chance = random.Random(5)
        for number in range(600):
            text = some_text(chance, 9)
            one = some_change(chance, text)
            middle = done(text, one)
            two = some_change(chance, middle)
            last = done(middle, two)
            three = some_change(chance, last)
            told = then(then(one, two), three)
            self.assertEqual(told, then(one, then(two, three)), (one, two, three))
            self.assertEqual(done(text, told), done(last, three))
            self.assertEqual(back(told), then(back(three), then(back(two), back(one))))

    def test_the_way_back(self):
        for text in ("", "a", "ab"):
            for one in changes_of(text, ["x"]):
                for other in changes_of(done(text, one), ["y"])[::3]:
                    self.assertEqual(back(then(one, other)), then(back(other), back(one)), (one, other))

    def test_beside_a_change_that_keeps_all_each_is_itself(self):
        for change in changes(4):
            over, gives = sizes(change)
            self.assertEqual(then([("keep", over)] if over else [], change), change)
            self.assertEqual(then(change, [("keep", gives)] if gives else []), change)

    def test_long_ones(self):
        one = [("put", "xyz"), ("cut", "a"), ("keep", 2)] * 3000
        other = [("keep", 2), ("cut", "z"), ("keep", 2), ("put", "w")] * 3000
        told = [("put", "xy"), ("cut", "a"), ("keep", 2)] + [("put", "wxy"), ("cut", "a"), ("keep", 2)] * 2999
        told.append(("put", "w"))
        self.assertEqual(then(one, other), told)
        long = "ab" * 100000
        other = [("keep", 1), ("cut", "b")] * 100000
        self.assertEqual(then([("put", long)], other), [("put", "a" * 100000)])

    def test_sizes_that_are_unlike(self):
        for one, other in [([], [("keep", 1)]), ([("put", "a")], []), ([("keep", 2)], [("keep", 1)]),
                           ([("keep", 1)], [("keep", 2)]), ([("cut", "a")], [("cut", "a")]),
                           ([("put", "ab")], [("cut", "a")]), ([("put", "a")], [("cut", "ab")]),
                           ([("keep", 3)], [("put", "abc")])]:
            with self.assertRaises(BadFit, msg=(one, other)):
                then(one, other)

    def test_what_was_put_is_cut_otherwise(self):
        for one, other in [([("put", "x")], [("cut", "y")]), ([("put", "xy")], [("keep", 1), ("cut", "x")]),
                           ([("put", "x"), ("keep", 1)], [("cut", "yb")]),
                           ([("keep", 1), ("put", "x")], [("cut", "ay")]),
                           ([("put", "x"), ("cut", "a")], [("put", "b"), ("cut", "a")]),
                           ([("put", "xy")], [("cut", "y"), ("keep", 1), ("put", "z")])]:
            with self.assertRaises(BadFit, msg=(one, other)):
                then(one, other)

    def test_what_is_no_change_is_refused(self):
        for place, thing in enumerate(no_changes()):
            for good in ([("keep", 1)], []):
                with self.assertRaises(BadChange, msg=place):
                    then(thing, good)
                with self.assertRaises(BadChange, msg=place):
                    then(good, thing)
            with self.assertRaises(BadChange, msg=place):
                then(thing, Odd())

    def test_bad_change_is_told_ahead_of_bad_fit(self):
        for other in ([("keep", 9), ("keep", 0)], [("cut", "b"), None], Odd(), [("cut", "b"), ("put", "a")]):
            with self.assertRaises(BadChange):
                then([("put", "a")], other)
            with self.assertRaises(BadChange):
                then(other, [("keep", 7)])

    def test_what_is_handed_in_stays_and_what_is_told_is_the_askers_own(self):
        for one, other in [([], []), ([("keep", 2)], [("keep", 2)]), ([("put", "ab")], [("cut", "a"), ("keep", 1)]),
                           ([("put", "a")], [("keep", 1)]), ([("keep", 1)], [("put", "a"), ("keep", 1)])]:
            kept = copy.deepcopy((one, other))
            told = then(one, other)
            kept_told = list(told)
            self.assertEqual((one, other), kept)
            told.append(("keep", 7))
            self.assertEqual((one, other), kept)
            self.assertEqual(then(one, other), kept_told)
            told = then(one, other)
            one.append(("keep", 7))
            other.clear()
            self.assertEqual(told, kept_told)

    def test_refused_ones_stay_too(self):
        one, other = [("put", "ab")], [("keep", 1), ("cut", "a")]
        with self.assertRaises(BadFit):
            then(one, other)
        self.assertEqual((one, other), ([("put", "ab")], [("keep", 1), ("cut", "a")]))

    def test_it_is_a_list_of_tuples(self):
        told = then([("put", "ab"), ("cut", "c"), ("keep", 1)], [("cut", "a"), ("keep", 2)])
        self.assertIsInstance(told, list)
        for part in told:
            self.assertIsInstance(part, tuple)


if __name__ == "__main__":
    unittest.main()
