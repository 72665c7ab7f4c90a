import copy
import unittest

from inkloom.changes import back, done, need_change, neat, sizes
from inkloom.errors import BadChange, BadFit, BadText

from samples import BAD_ORDERS, GOOD_PARTS, GOOD_SIGNS, LOOSE_PARTS, Odd
from samples import behind, changes, is_neat, neatened, no_changes, no_texts, rows, texts

GOOD_CHANGES = [
    [],
    [("keep", 1)],
    [("keep", 10 ** 30)],
    [("put", "a")],
    [("cut", "a")],
    [("put", "a"), ("cut", "a")],
    [("put", "a"), ("keep", 1), ("put", "b")],
    [("cut", "a"), ("keep", 1), ("put", "b")],
    [("cut", "a"), ("keep", 1), ("cut", "b")],
    [("keep", 1), ("put", "a"), ("cut", "b"), ("keep", 2), ("put", "c\nd"), ("keep", 3), ("cut", " ")],
    [("put", "".join(GOOD_SIGNS)), ("cut", "".join(GOOD_SIGNS))],
]

MANY = 4000


def long_change():
    change = []
    for number in range(MANY):
        change += [("keep", 2), ("put", "xyz"), ("cut", "a")]
    return change


class NeedChangeTest(unittest.TestCase):
    def test_good_changes(self):
        for change in GOOD_CHANGES:
            self.assertIsNone(need_change(change), change)

    def test_a_change_of_many_parts(self):
        self.assertIsNone(need_change(long_change()))
        with self.assertRaises(BadChange):
            need_change(long_change() + [("put", "a")])

    def test_what_is_none(self):
        for place, thing in enumerate(no_changes()):
            with self.assertRaises(BadChange, msg=place):
                need_change(thing)

    def test_all_small_rows_of_good_parts(self):
        for row in rows(GOOD_PARTS, 4):
            if is_neat(row):
                self.assertIsNone(need_change(row), row)
            else:
                with self.assertRaises(BadChange, msg=row):
                    need_change(row)

    def test_small_rows_with_parts_of_no_size(self):
        for row in rows(LOOSE_PARTS, 3):
            if ("keep", 0) in row or ("put", "") in row or ("cut", "") in row:
                with self.assertRaises(BadChange, msg=row):
                    need_change(row)

    def test_what_is_asked_of_stays(self):
        for change in GOOD_CHANGES:
            kept = copy.deepcopy(change)
            need_change(change)
            self.assertEqual(change, kept)
        for change in copy.deepcopy(BAD_ORDERS):
            kept = copy.deepcopy(change)
            with self.assertRaises(BadChange):
                need_change(change)
            self.assertEqual(change, kept)


class SizesTest(unittest.TestCase):
    def test_the_list_of_no_parts(self):
        self.assertEqual(sizes([]), (0, 0))

    def test_each_word(self):
        self.assertEqual(sizes([("keep", 3)]), (3, 3))
        self.assertEqual(sizes([("cut", "abcd")]), (4, 0))
        self.assertEqual(sizes([("put", "ab\n")]), (0, 3))

    def test_several_parts(self):
        change = [("keep", 2), ("put", "abc"), ("cut", "d"), ("keep", 5), ("cut", "\n\n")]
        self.assertEqual(sizes(change), (10, 10))
        self.assertEqual(sizes(change + [("keep", 1), ("put", "x")]), (11, 12))

    def test_it_is_a_tuple(self):
        self.assertIsInstance(sizes([("keep", 3)]), tuple)

    def test_great_keeps(self):
        self.assertEqual(sizes([("keep", 10 ** 30), ("put", "a")]), (10 ** 30, 10 ** 30 + 1))

    def test_many_parts(self):
        self.assertEqual(sizes(long_change()), (3 * MANY, 5 * MANY))

    def test_what_is_no_change_is_refused(self):
        for place, thing in enumerate(no_changes()):
            with self.assertRaises(BadChange, msg=place):
                sizes(thing)

    def test_the_change_stays(self):
        change = [("keep", 2), ("put", "abc"), ("cut", "d")]
        sizes(change)
        self.assertEqual(change, [("keep", 2), ("put", "abc"), ("cut", "d")])


class NeatTest(unittest.TestCase):
    def test_nothing_of_no_size_stays(self):
        self.assertEqual(neat([]), [])
        self.assertEqual(neat([("keep", 0)]), [])
        self.assertEqual(neat([("put", "")]), [])
        self.assertEqual(neat([("cut", "")]), [])
        self.assertEqual(neat([("keep", 0), ("put", ""), ("cut", ""), ("keep", 0)]), [])
        self.assertEqual(neat([("keep", 0), ("put", "a"), ("keep", 0)]), [("put", "a")])

    def test_neighbours_of_one_word_are_one(self):
        self.assertEqual(neat([("keep", 1), ("keep", 2), ("keep", 3)]), [("keep", 6)])
        self.assertEqual(neat([("put", "a"), ("put", "b")]), [("put", "ab")])
        self.assertEqual(neat([("cut", "a"), ("cut", "b")]), [("cut", "ab")])

    def test_what_has_no_size_parts_no_neighbours(self):
        self.assertEqual(neat([("keep", 1), ("put", ""), ("cut", ""), ("keep", 2)]), [("keep", 3)])
        self.assertEqual(neat([("put", "a"), ("keep", 0), ("put", "b")]), [("put", "ab")])
        self.assertEqual(neat([("cut", "a"), ("keep", 0), ("put", "b")]), [("put", "b"), ("cut", "a")])
        self.assertEqual(neat([("cut", "a"), ("put", ""), ("cut", "b")]), [("cut", "ab")])

    def test_puts_stand_ahead_of_cuts_between_two_keeps(self):
        parts = [("cut", "a"), ("put", "x"), ("cut", "b"), ("put", "y"), ("keep", 1), ("cut", "c"), ("put", "z")]
        told = [("put", "xy"), ("cut", "ab"), ("keep", 1), ("put", "z"), ("cut", "c")]
        self.assertEqual(neat(parts), told)

    def test_nothing_is_put_across_a_keep(self):
        parts = [("cut", "a"), ("keep", 1), ("put", "b")]
        self.assertEqual(neat(parts), parts)

    def test_alike_puts_and_cuts_stay_both(self):
        self.assertEqual(neat([("cut", "a"), ("put", "a")]), [("put", "a"), ("cut", "a")])

    def test_all_small_rows(self):
        for row in rows(LOOSE_PARTS, 4):
            change = neat(row)
            self.assertEqual(change, neatened(row), row)
            self.assertIsNone(need_change(change))
            self.assertEqual(neat(change), change)

    def test_longer_rows(self):
        for row in rows([("keep", 0), ("keep", 1), ("put", "x"), ("cut", "a")], 6):
            self.assertEqual(neat(row), neatened(row), row)

    def test_many_parts(self):
        self.assertEqual(neat(long_change()), long_change())
        self.assertEqual(neat([("put", "a"), ("cut", "b")] * MANY), [("put", "a" * MANY), ("cut", "b" * MANY)])
        self.assertEqual(neat([("keep", 1)] * MANY), [("keep", MANY)])

    def test_it_is_a_list_of_tuples(self):
        change = neat([("cut", "a"), ("put", "b"), ("keep", 1)])
        self.assertIsInstance(change, list)
        for part in change:
            self.assertIsInstance(part, tuple)

    def test_the_list_handed_in_stays(self):
        for row in list(rows(LOOSE_PARTS, 2)) + GOOD_CHANGES:
            kept = list(row)
            neat(row)
            self.assertEqual(row, kept)

    def test_what_is_told_is_the_askers_own(self):
        for parts in ([], [("keep", 1)], [("put", "a"), ("cut", "b")], [("cut", "a"), ("put", "b"), ("keep", 0)]):
            kept = list(parts)
            told = neat(parts)
            kept_told = list(told)
            told.append(("keep", 7))
            self.assertEqual(parts, kept)
            self.assertEqual(neat(parts), kept_told)
            told = neat(parts)
            parts.append(("keep", 7))
            self.assertEqual(told, kept_told)


class DoneTest(unittest.TestCase):
    def test_ordinary_changes(self):
        self.assertEqual(done("", []), "")
        self.assertEqual(done("", [("put", "ab")]), "ab")
        self.assertEqual(done("ab", [("cut", "ab")]), "")
        self.assertEqual(done("ab", [("keep", 2)]), "ab")
        self.assertEqual(done("hello", [("put", "j"), ("cut", "h"), ("keep", 4), ("put", "!\n")]), "jello!\n")
        self.assertEqual(done("one two", [("keep", 4), ("put", "2"), ("cut", "two")]), "one 2")
        self.assertEqual(done("aba", [("cut", "a"), ("keep", 1), ("cut", "a")]), "b")

    def test_another_number_of_signs(self):
        for text, change in [("", [("keep", 1)]), ("a", []), ("a", [("put", "a")]), ("ab", [("keep", 1)]),
                             ("a", [("keep", 2)]), ("ab", [("cut", "a")]), ("a", [("cut", "ab")]), ("", [("cut", "a")]),
                             ("ab", [("keep", 1), ("cut", "bc")]), ("abc", [("keep", 1), ("cut", "b")]),
                             ("abc", [("keep", 10 ** 30)]), ("abc", [("put", "abc")])]:
            with self.assertRaises(BadFit, msg=(text, change)):
                done(text, change)

    def test_what_is_cut_does_not_stand_there(self):
        for text, change in [("a", [("cut", "b")]), ("ab", [("cut", "ba")]), ("ab", [("keep", 1), ("cut", "a")]),
                             ("ab", [("cut", "b"), ("keep", 1)]), ("a", [("put", "b"), ("cut", "b")]),
                             ("ab", [("cut", "aB")]), ("a b", [("keep", 1), ("cut", "\n"), ("keep", 1)]),
                             ("abab", [("cut", "ab"), ("keep", 1), ("cut", "a")])]:
            with self.assertRaises(BadFit, msg=(text, change)):
                done(text, change)

    def test_all_small_texts_and_changes(self):
        for change in changes(4):
            for text in texts("ab", 3):
                told = behind(text, change)
                if told is None:
                    with self.assertRaises(BadFit, msg=(text, change)):
                        done(text, change)
                else:
                    self.assertEqual(done(text, change), told, (text, change))
                    self.assertEqual((len(text), len(told)), sizes(change))

    def test_a_long_text(self):
        self.assertEqual(done("bca" * MANY, long_change()), "bcxyz" * MANY)

    def test_what_is_no_text_is_refused(self):
        for place, thing in enumerate(no_texts()):
            with self.assertRaises(BadText, msg=place):
                done(thing, [])

    def test_what_is_no_change_is_refused(self):
        for place, thing in enumerate(no_changes()):
            with self.assertRaises(BadChange, msg=place):
                done("a", thing)

    def test_the_order_of_refusals(self):
        for text in ("\t", None, Odd(), 1, ["a"]):
            for change in (None, Odd(), [("keep", 0)], [("keep", 5)], [("cut", "b")]):
                with self.assertRaises(BadText):
                    done(text, change)
        for change in ([("keep", 5), ("keep", 0)], [("cut", "b"), ("put", "a")], [("cut", "b"), Odd()], [("keep", 0)]):
            with self.assertRaises(BadChange):
                done("a", change)

    def test_the_change_stays(self):
        change = [("put", "j"), ("cut", "h"), ("keep", 4)]
        kept = list(change)
        done("hello", change)
        self.assertEqual(change, kept)
        for text in ("jello", "hell", "\t", None):
            with self.assertRaises((BadText, BadFit)):
                done(text, change)
            self.assertEqual(change, kept)


class BackTest(unittest.TestCase):
    def test_ordinary_changes(self):
        self.assertEqual(back([]), [])
        self.assertEqual(back([("keep", 3)]), [("keep", 3)])
        self.assertEqual(back([("put", "a")]), [("cut", "a")])
        self.assertEqual(back([("cut", "a")]), [("put", "a")])
        self.assertEqual(back([("put", "a"), ("cut", "b")]), [("put", "b"), ("cut", "a")])
        change = [("keep", 1), ("put", "a"), ("cut", "bc"), ("keep", 2), ("cut", "d"), ("keep", 3), ("put", "e")]
        told = [("keep", 1), ("put", "bc"), ("cut", "a"), ("keep", 2), ("put", "d"), ("keep", 3), ("cut", "e")]
        self.assertEqual(back(change), told)

    def test_it_leads_back(self):
        for change in changes(4):
            for text in texts("ab", 3):
                told = behind(text, change)
                if told is not None:
                    self.assertEqual(done(told, back(change)), text, (text, change))

    def test_the_way_back_of_the_way_back(self):
        for change in changes(4) + GOOD_CHANGES + [long_change()]:
            way = back(change)
            self.assertIsNone(need_change(way))
            self.assertEqual(sizes(way), sizes(change)[::-1])
            self.assertEqual(back(way), change)

    def test_what_is_no_change_is_refused(self):
        for place, thing in enumerate(no_changes()):
            with self.assertRaises(BadChange, msg=place):
                back(thing)

    def test_what_is_told_is_the_askers_own(self):
        for change in ([], [("keep", 1)], [("put", "a"), ("cut", "b")]):
            kept = list(change)
            told = back(change)
            self.assertEqual(change, kept)
            kept_told = list(told)
            told.append(("keep", 7))
            self.assertEqual(change, kept)
            self.assertEqual(back(change), kept_told)
            told = back(change)
            change.append(("keep", 7))
            self.assertEqual(told, kept_told)


if __name__ == "__main__":
    unittest.main()
