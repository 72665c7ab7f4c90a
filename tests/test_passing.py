import copy
import itertools
import random
import unittest

from inkloom.changes import done, need_change, sizes
from inkloom.errors import BadChange, BadFit
from inkloom.joining import then
from inkloom.passing import passed

from samples import Odd, behind, changes, changes_of, neatened, no_changes, some_change, some_text


def puts_and_cuts(change):
    """What a change puts, by gaps, and what it cuts, by old signs, and over how many signs it is."""
    puts, cuts, place = {}, {}, 0
    for word, what in change:
        if word == "put":
            puts[place] = what
        elif word == "keep":
            place += what
        else:
            for sign in what:
                cuts[place] = sign
                place += 1
    return puts, cuts, place


def gap_by_gap(one, other):
    """Both changes behind one another, gap by gap; None where they don't fit."""
    first, first_cuts, over = puts_and_cuts(one)
    second, second_cuts, other_over = puts_and_cuts(other)
    both = set(first_cuts) & set(second_cuts)
    if over != other_over or any(first_cuts[place] != second_cuts[place] for place in both):
        return None
    ones, others = [], []
    for gap in range(over + 1):
        ones += [("put", first.get(gap, "")), ("keep", len(second.get(gap, "")))]
        others += [("keep", len(first.get(gap, ""))), ("put", second.get(gap, ""))]
        if gap == over or gap in both:
            continue
        if gap in first_cuts:
            ones.append(("cut", first_cuts[gap]))
        elif gap in second_cuts:
            others.append(("cut", second_cuts[gap]))
        else:
            ones.append(("keep", 1))
            others.append(("keep", 1))
    return neatened(ones), neatened(others)


def text_of_both(text, one, other):
    first, first_cuts, over = puts_and_cuts(one)
    second, second_cuts, over = puts_and_cuts(other)
    told = ""
    for gap in range(len(text) + 1):
        told += first.get(gap, "") + second.get(gap, "")
        if gap not in first_cuts and gap not in second_cuts:
            told += text[gap:gap + 1]
    return told


class PassedTest(unittest.TestCase):
    def test_ordinary_ones(self):
        one = [("keep", 1), ("put", "x"), ("keep", 2)]
        other = [("keep", 2), ("put", "y"), ("cut", "c")]
        self.assertEqual(passed(one, other), ([("keep", 1), ("put", "x"), ("keep", 2)],
                                              [("keep", 3), ("put", "y"), ("cut", "c")]))

    def test_what_both_put_into_one_gap(self):
        self.assertEqual(passed([("put", "x")], [("put", "yz")]),
                         ([("put", "x"), ("keep", 2)], [("keep", 1), ("put", "yz")]))
        self.assertEqual(passed([("keep", 1), ("put", "a")], [("keep", 1), ("put", "a")]),
                         ([("keep", 1), ("put", "a"), ("keep", 1)], [("keep", 2), ("put", "a")]))

    def test_what_both_cut(self):
        self.assertEqual(passed([("cut", "ab"), ("keep", 1)], [("keep", 1), ("cut", "bc")]),
                         ([("cut", "a")], [("cut", "c")]))
        self.assertEqual(passed([("cut", "ab")], [("cut", "ab")]), ([], []))
        self.assertEqual(passed([("put", "x"), ("cut", "a")], [("put", "y"), ("cut", "a")]),
                         ([("put", "x"), ("keep", 1)], [("keep", 1), ("put", "y")]))

    def test_what_one_cuts_round_what_the_other_one_puts(self):
        self.assertEqual(passed([("cut", "ab")], [("keep", 1), ("put", "x"), ("keep", 1)]),
                         ([("cut", "a"), ("keep", 1), ("cut", "b")], [("put", "x")]))

    def test_a_put_comes_ahead_of_a_cut_where_what_stood_between_is_gone(self):
        self.assertEqual(passed([("cut", "a"), ("keep", 1), ("put", "x")], [("keep", 1), ("cut", "b")]),
                         ([("put", "x"), ("cut", "a")], [("cut", "b"), ("keep", 1)]))

    def test_the_empty_text(self):
        self.assertEqual(passed([], []), ([], []))
        self.assertEqual(passed([("put", "a")], []), ([("put", "a")], [("keep", 1)]))
        self.assertEqual(passed([], [("put", "a")]), ([("keep", 1)], [("put", "a")]))

    def test_it_is_a_tuple_of_lists(self):
        told = passed([("keep", 1)], [("keep", 1)])
        self.assertIsInstance(told, tuple)
        self.assertEqual([list, list], [told[0].__class__, told[1].__class__])

    def test_great_keeps(self):
        great = 10 ** 30
        self.assertEqual(passed([("keep", great), ("put", "x"), ("keep", 1)], [("keep", great), ("cut", "a")]),
                         ([("keep", great), ("put", "x")], [("keep", great + 1), ("cut", "a")]))

    def test_all_small_pairs(self):
        for one, other in itertools.product(changes(3), changes(3)):
            told = gap_by_gap(one, other)
            if told is None:
                with self.assertRaises(BadFit, msg=(one, other)):
                    passed(one, other)
            else:
                self.assertEqual(passed(one, other), told, (one, other))

    def test_all_pairs_of_changes_of_small_texts(self):
        for text in ("", "a", "ab", "aba"):
            for one, other in itertools.product(changes_of(text, ["x"])[::2], changes_of(text, ["x"])):
                ones, others = passed(one, other)
                self.assertEqual((ones, others), gap_by_gap(one, other), (one, other))
                self.assertIsNone(need_change(ones))
                self.assertIsNone(need_change(others))
                both = text_of_both(text, one, other)
                self.assertEqual(behind(behind(text, other), ones), both)
                self.assertEqual(behind(behind(text, one), others), both)
                self.assertEqual(then(one, others), then(other, ones), (one, other))

    def test_long_rows_by_chance(self):
        chance = random.Random(6)
        for number in range(600):
            text = some_text(chance, 30)
            one, other = some_change(chance, text, parts=8), some_change(chance, text, parts=8)
            ones, others = passed(one, other)
            self.assertEqual((ones, others), gap_by_gap(one, other))
            self.assertEqual(done(done(text, one), others), text_of_both(text, one, other))
            self.assertEqual(then(one, others), then(other, ones), (one, other))

    def test_past_a_change_that_keeps_all_each_stays_itself(self):
        for change in changes(4):
            over, gives = sizes(change)
            still = [("keep", over)] if over else []
            told = [("keep", gives)] if gives else []
            self.assertEqual(passed(change, still), (change, told))
            self.assertEqual(passed(still, change), (told, change))

    def test_long_ones(self):
        one = [("put", "x"), ("cut", "a"), ("keep", 1)] * 3000
        other = [("keep", 1), ("put", "y"), ("cut", "b")] * 3000
        ones, others = passed(one, other)
        self.assertEqual(ones, [("put", "x"), ("cut", "a"), ("keep", 1)] * 3000)
        self.assertEqual(others, [("keep", 1), ("put", "y"), ("cut", "b")] * 3000)

    def test_sizes_that_are_unlike(self):
        for one, other in [([], [("keep", 1)]), ([("keep", 1)], []), ([("keep", 2)], [("keep", 1)]),
                           ([("cut", "a")], [("put", "a")]), ([("cut", "ab")], [("cut", "a")]),
                           ([("put", "a"), ("keep", 1)], [("keep", 2)])]:
            with self.assertRaises(BadFit, msg=(one, other)):
                passed(one, other)

    def test_a_sign_that_both_cut_is_told_otherwise(self):
        for one, other in [([("cut", "a")], [("cut", "b")]), ([("cut", "ab")], [("keep", 1), ("cut", "c")]),
                           ([("cut", "ab"), ("keep", 1)], [("keep", 1), ("cut", "cc")]),
                           ([("put", "x"), ("cut", "a")], [("put", "x"), ("cut", "b")]),
                           ([("keep", 4), ("cut", "a")], [("cut", "abcde")])]:
            with self.assertRaises(BadFit, msg=(one, other)):
                passed(one, other)
            with self.assertRaises(BadFit, msg=(other, one)):
                passed(other, one)

    def test_what_is_no_change_is_refused(self):
        for place, thing in enumerate(no_changes()):
            for good in ([("keep", 1)], []):
                with self.assertRaises(BadChange, msg=place):
                    passed(thing, good)
                with self.assertRaises(BadChange, msg=place):
                    passed(good, thing)
            with self.assertRaises(BadChange, msg=place):
                passed(thing, Odd())

    def test_bad_change_is_told_ahead_of_bad_fit(self):
        for other in ([("keep", 9), ("keep", 0)], [("cut", "b"), None], Odd(), [("cut", "b"), ("put", "a")]):
            with self.assertRaises(BadChange):
                passed([("cut", "a")], other)
            with self.assertRaises(BadChange):
                passed(other, [("cut", "a")])

    def test_what_is_handed_in_stays_and_what_is_told_is_the_askers_own(self):
        for one, other in [([], []), ([("keep", 2)], [("keep", 2)]), ([("cut", "ab")], [("keep", 1), ("cut", "b")]),
                           ([("put", "a")], []), ([("keep", 1)], [("put", "a"), ("keep", 1)])]:
            kept = copy.deepcopy((one, other))
            told = passed(one, other)
            kept_told = copy.deepcopy(told)
            self.assertEqual((one, other), kept)
            told[0].append(("keep", 7))
            self.assertEqual(told[1], kept_told[1])
            told[1].append(("keep", 8))
            self.assertEqual((one, other), kept)
            self.assertEqual(passed(one, other), kept_told)
            told = passed(one, other)
            one.append(("keep", 7))
            other.clear()
            self.assertEqual(told, kept_told)

    def test_one_list_in_both_places(self):
        change = [("put", "x"), ("cut", "a"), ("keep", 1)]
        told = ([("put", "x"), ("keep", 2)], [("keep", 1), ("put", "x"), ("keep", 1)])
        self.assertEqual(passed(change, change), told)
        self.assertEqual(change, [("put", "x"), ("cut", "a"), ("keep", 1)])


if __name__ == "__main__":
    unittest.main()
