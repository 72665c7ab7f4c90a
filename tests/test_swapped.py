import itertools
import unittest

from inkloom.changes import done, need_change, swapped
from inkloom.errors import BadText, NoPlace

from samples import Odd, neatened, no_texts, no_wholes


def spliced(text, swaps):
    """The text behind swaps that are in order, the last one done first."""
    for begin, end, put in reversed(swaps):
        text = text[:begin] + put + text[end:]
    return text


def parts_of(text, swaps):
    """Parts that do these swaps, sign by sign."""
    parts = []
    place = 0
    for begin, end, put in swaps:
        parts += [("keep", 1)] * (begin - place)
        parts += [("cut", sign) for sign in text[begin:end]] + [("put", sign) for sign in put]
        place = end
    return parts + [("keep", 1)] * (len(text) - place)


def in_order(text, swaps):
    places = [0] + [place for swap in swaps for place in swap[:2]] + [len(text)]
    return places == sorted(places)


class SwappedTest(unittest.TestCase):
    def test_no_swaps(self):
        self.assertEqual(swapped("", []), [])
        self.assertEqual(swapped("abc", []), [("keep", 3)])

    def test_one_swap(self):
        self.assertEqual(swapped("abc", [(1, 2, "x")]), [("keep", 1), ("put", "x"), ("cut", "b"), ("keep", 1)])
        self.assertEqual(swapped("abc", [(0, 3, "x\n")]), [("put", "x\n"), ("cut", "abc")])
        self.assertEqual(swapped("", [(0, 0, "x")]), [("put", "x")])

    def test_ones_that_put_or_cut_nothing(self):
        self.assertEqual(swapped("abc", [(1, 1, "x")]), [("keep", 1), ("put", "x"), ("keep", 2)])
        self.assertEqual(swapped("abc", [(1, 2, "")]), [("keep", 1), ("cut", "b"), ("keep", 1)])
        self.assertEqual(swapped("abc", [(3, 3, "x")]), [("keep", 3), ("put", "x")])
        self.assertEqual(swapped("abc", [(0, 0, "x")]), [("put", "x"), ("keep", 3)])

    def test_empty_ones(self):
        self.assertEqual(swapped("", [(0, 0, ""), (0, 0, "")]), [])
        self.assertEqual(swapped("abc", [(0, 0, ""), (1, 1, ""), (1, 1, ""), (3, 3, "")]), [("keep", 3)])

    def test_touching_ones(self):
        self.assertEqual(swapped("abc", [(0, 1, "x"), (1, 2, "y")]), [("put", "xy"), ("cut", "ab"), ("keep", 1)])
        self.assertEqual(swapped("ab", [(1, 1, "x"), (1, 1, "y")]), [("keep", 1), ("put", "xy"), ("keep", 1)])
        self.assertEqual(swapped("ab", [(0, 1, ""), (1, 1, "y"), (1, 2, "z")]), [("put", "yz"), ("cut", "ab")])

    def test_parted_ones(self):
        change = [("put", "x"), ("cut", "a"), ("keep", 1), ("cut", "c"), ("keep", 1), ("put", "y")]
        self.assertEqual(swapped("abcd", [(0, 1, "x"), (2, 3, ""), (4, 4, "y")]), change)

    def test_a_text_for_one_that_is_alike(self):
        self.assertEqual(swapped("abc", [(1, 2, "b")]), [("keep", 1), ("put", "b"), ("cut", "b"), ("keep", 1)])
        self.assertEqual(swapped("abc", [(0, 3, "abc")]), [("put", "abc"), ("cut", "abc")])
        self.assertEqual(swapped("aa", [(0, 1, "ab")]), [("put", "ab"), ("cut", "a"), ("keep", 1)])

    def test_all_pairs_of_small_swaps(self):
        for text in ("", "a", "ab", "abb"):
            places = range(-1, len(text) + 2)
            single = list(itertools.product(places, places, ("", "b", "xy")))
            for swaps in [[one] for one in single] + [list(pair) for pair in itertools.product(single, repeat=2)]:
                if not in_order(text, swaps):
                    with self.assertRaises(NoPlace, msg=(text, swaps)):
                        swapped(text, swaps)
                    continue
                change = swapped(text, swaps)
                self.assertIsNone(need_change(change))
                self.assertEqual(done(text, change), spliced(text, swaps))
                self.assertEqual(change, neatened(parts_of(text, swaps)))

    def test_many_swaps(self):
        swaps = [(3 * number, 3 * number + 1, "xy") for number in range(3000)]
        self.assertEqual(done("abc" * 3000, swapped("abc" * 3000, swaps)), "xybc" * 3000)

    def test_no_places(self):
        for begin, end in [(-1, 0), (0, -1), (-1, -1), (4, 4), (0, 4), (3, 4), (2, 1), (3, 0)]:
            with self.assertRaises(NoPlace, msg=(begin, end)):
                swapped("abc", [(begin, end, "")])

    def test_out_of_order(self):
        for swaps in [[(0, 2, ""), (1, 3, "")], [(2, 3, ""), (0, 1, "")], [(0, 2, ""), (1, 1, "")],
                      [(3, 3, ""), (2, 3, "")], [(0, 1, ""), (1, 2, ""), (1, 3, "")], [(1, 3, ""), (1, 3, "")]]:
            with self.assertRaises(NoPlace, msg=swaps):
                swapped("abc", swaps)

    def test_other_kinds_in_the_place_of_a_place(self):
        for place, thing in enumerate(no_wholes()):
            for swap in [(thing, 1, "a"), (0, thing, "a"), (thing, thing, "a"), (thing, 9, "\t"), (9, thing, None)]:
                with self.assertRaises(NoPlace, msg=place):
                    swapped("abc", [swap])
                with self.assertRaises(NoPlace, msg=place):
                    swapped("abc", [(0, 0, "x"), swap])

    def test_what_is_no_text_is_refused(self):
        for place, thing in enumerate(no_texts()):
            with self.assertRaises(BadText, msg=place):
                swapped(thing, [])
            with self.assertRaises(BadText, msg=place):
                swapped(thing, [(9, 0, "a")])
            with self.assertRaises(BadText, msg=place):
                swapped("abc", [(0, 1, thing)])
            with self.assertRaises(BadText, msg=place):
                swapped("abc", [(0, 1, "a"), (1, 1, thing)])

    def test_the_order_of_refusals(self):
        with self.assertRaises(NoPlace):
            swapped("abc", [(0, 4, "\t")])
        with self.assertRaises(NoPlace):
            swapped("abc", [(2, 1, Odd())])
        with self.assertRaises(BadText):
            swapped("abc", [(0, 1, "\t"), (0, 9, "a")])
        with self.assertRaises(BadText):
            swapped("abc", [(0, 2, None), (1, 2, "a")])
        with self.assertRaises(NoPlace):
            swapped("abc", [(0, 9, "a"), (0, 1, "\t")])
        with self.assertRaises(NoPlace):
            swapped("abc", [(0, 2, "a"), (1, 2, "\t")])

    def test_what_is_handed_in_stays(self):
        for swaps in ([], [(0, 1, "x"), (1, 2, "")], [(0, 0, "")]):
            kept = list(swaps)
            told = swapped("abc", swaps)
            self.assertEqual(swaps, kept)
            kept_told = list(told)
            told.append(("keep", 7))
            self.assertEqual(swaps, kept)
            self.assertEqual(swapped("abc", swaps), kept_told)
        swaps = [(0, 1, "x"), (0, 1, "y")]
        with self.assertRaises(NoPlace):
            swapped("abc", swaps)
        self.assertEqual(swaps, [(0, 1, "x"), (0, 1, "y")])

    def test_what_is_told_of_the_empty_text_is_the_askers_own(self):
        swapped("", []).append(("keep", 7))
        self.assertEqual(swapped("", []), [])

    def test_it_is_a_list_of_tuples(self):
        change = swapped("abc", [(0, 1, "x")])
        self.assertIsInstance(change, list)
        for part in change:
            self.assertIsInstance(part, tuple)


if __name__ == "__main__":
    unittest.main()
