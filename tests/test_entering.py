import copy
import random
import unittest

from inkloom.changes import done, need_change, swapped
from inkloom.cursors import need_cursors
from inkloom.entering import entered, erased, taken
from inkloom.errors import BadDeed, BadText, NoCursor
from inkloom.papers import paper_of

from samples import Odd, entered_plainly, erased_plainly, no_texts, no_wholes, other_kinds, some_change, some_cursors
from samples import some_text

ERASE_WORDS = ["left", "right", "back", "on", "home", "end"]
NO_CURSORS = [None, [], (), "", 0, ((0, 0, None),), [(0, 0)], [(4, 4, None)], [(0, -1, None)], [(True, 0, None)],
              [(0, 0, -1)], [(0, 2, None), (1, 3, None)], [(1, 1, None), (0, 0, None)], [(0, 0, None), (0, 0, None)],
              [(0, 0, None), None], [Odd()], Odd(), {}]


class EnteredTest(unittest.TestCase):
    def assert_entered(self, text, cursors, texts, change, behind):
        told = entered(paper_of(text), cursors, texts)
        self.assertIsInstance(told, tuple)
        self.assertEqual(told, (change, behind))

    def test_one_cursor(self):
        self.assert_entered("abc", [(1, 1, 4)], ["xy"], [("keep", 1), ("put", "xy"), ("keep", 2)], [(3, 3, None)])
        self.assert_entered("abc", [(1, 3, 4)], ["x"], [("keep", 1), ("put", "x"), ("cut", "bc")], [(2, 2, None)])
        self.assert_entered("abc", [(3, 1, 4)], ["x"], [("keep", 1), ("put", "x"), ("cut", "bc")], [(2, 2, None)])
        self.assert_entered("", [(0, 0, None)], ["x\n"], [("put", "x\n")], [(2, 2, None)])

    def test_empty_texts(self):
        self.assert_entered("abc", [(1, 1, 4)], [""], [("keep", 3)], [(1, 1, None)])
        self.assert_entered("abc", [(0, 2, 4)], [""], [("cut", "ab"), ("keep", 1)], [(0, 0, None)])
        self.assert_entered("", [(0, 0, 4)], [""], [], [(0, 0, None)])

    def test_a_text_that_is_alike(self):
        change = [("keep", 1), ("put", "b"), ("cut", "b"), ("keep", 1)]
        self.assert_entered("abc", [(1, 2, None)], ["b"], change, [(2, 2, None)])

    def test_several_cursors(self):
        change = [("put", "x"), ("keep", 1), ("put", "yy"), ("cut", "b"), ("keep", 1), ("put", "z")]
        behind = [(1, 1, None), (4, 4, None), (6, 6, None)]
        self.assert_entered("abc", [(0, 0, None), (2, 1, 7), (3, 3, None)], ["x", "yy", "z"], change, behind)

    def test_ones_that_touch(self):
        self.assert_entered("abcd", [(0, 2, None), (4, 2, None)], ["x", "y"], [("put", "xy"), ("cut", "abcd")],
                            [(1, 1, None), (2, 2, None)])

    def test_ones_that_come_to_one_place(self):
        self.assert_entered("abcd", [(0, 2, None), (4, 2, None)], ["x", ""], [("put", "x"), ("cut", "abcd")],
                            [(1, 1, None)])
        self.assert_entered("abcd", [(0, 2, None), (2, 4, None)], ["", ""], [("cut", "abcd")], [(0, 0, None)])

    def test_forty_cursors(self):
        text = "ab" * 40
        cursors = [(2 * number, 2 * number + 1, None) for number in range(40)]
        change, behind = entered(paper_of(text), cursors, ["xyz"] * 40)
        self.assertEqual(done(text, change), "xyzb" * 40)
        self.assertEqual(behind, [(4 * number + 3, 4 * number + 3, None) for number in range(40)])

    def test_rows_beside_plain_texts(self):
        chance = random.Random(17)
        for number in range(500):
            text = some_text(chance, 25)
            paper = paper_of(text)
            for more in range(chance.randrange(4)):
                paper = paper.changed(some_change(chance, paper.text()))
            text = paper.text()
            cursors = some_cursors(chance, len(text))
            texts = [some_text(chance, 3) for cursor in cursors]
            change, behind = entered(paper, cursors, texts)
            told, plain_change, plain_behind = entered_plainly(text, cursors, texts)
            swaps = [(min(cursor[:2]), max(cursor[:2]), put) for cursor, put in zip(cursors, texts)]
            self.assertEqual(change, swapped(text, swaps))
            self.assertEqual((done(text, change), change, behind), (told, plain_change, plain_behind))
            self.assertIsNone(need_change(change))
            self.assertIsNone(need_cursors(len(told), behind))
            self.assertEqual(paper.text(), text)

    def test_no_cursor_is_told_first(self):
        for cursors in NO_CURSORS:
            for texts in (["x"], None, Odd(), [Odd()], []):
                with self.assertRaises(NoCursor):
                    entered(paper_of("abc"), cursors, texts)
        for thing in no_wholes():
            with self.assertRaises(NoCursor):
                entered(paper_of("abc"), [(thing, 0, None)], [""])

    def test_texts_that_are_not_one_for_each_cursor(self):
        cursors = [(0, 0, None), (2, 2, None)]
        for texts in other_kinds() + [[], ["a"], ["a", "b", "c"], ("a", "b"), "ab", 2, [None], [Odd()] * 3, ["\t"]]:
            with self.assertRaises(BadDeed):
                entered(paper_of("abc"), cursors, texts)

    def test_what_is_no_text(self):
        cursors = [(0, 0, None), (2, 2, None)]
        for thing in no_texts():
            for texts in ([thing, "a"], ["a", thing], [thing, thing]):
                with self.assertRaises(BadText):
                    entered(paper_of("abc"), cursors, texts)

    def test_what_is_handed_in_stays(self):
        paper, cursors, texts = paper_of("abc"), [(0, 0, 3), (2, 3, None)], ["x", ""]
        kept = copy.deepcopy((cursors, texts))
        told = entered(paper, cursors, texts)
        kept_told = copy.deepcopy(told)
        self.assertEqual((cursors, texts, paper.text(), paper.stock.many()), kept + ("abc", 3))
        told[0].clear()
        told[1].clear()
        self.assertEqual(entered(paper, cursors, texts), kept_told)
        told = entered(paper, cursors, texts)
        cursors.clear()
        texts.clear()
        self.assertEqual(told, kept_told)


class ErasedTest(unittest.TestCase):
    def assert_erased(self, text, cursors, word, change, behind):
        told = erased(paper_of(text), cursors, word)
        self.assertIsInstance(told, tuple)
        self.assertEqual(told, (change, behind))

    def test_each_word(self):
        text, cursor = "ab cd\nef gh", [(5, 5, 2)]
        self.assert_erased(text, cursor, "left", [("keep", 4), ("cut", "d"), ("keep", 6)], [(4, 4, None)])
        self.assert_erased(text, cursor, "right", [("keep", 5), ("cut", "\n"), ("keep", 5)], [(5, 5, None)])
        self.assert_erased(text, cursor, "back", [("keep", 3), ("cut", "cd"), ("keep", 6)], [(3, 3, None)])
        self.assert_erased(text, cursor, "on", [("keep", 5), ("cut", "\nef"), ("keep", 3)], [(5, 5, None)])
        self.assert_erased(text, cursor, "home", [("cut", "ab cd"), ("keep", 6)], [(0, 0, None)])
        self.assert_erased(text, [(7, 7, None)], "end", [("keep", 7), ("cut", "f gh")], [(7, 7, None)])

    def test_ones_that_are_not_empty_do_not_step(self):
        for word in ERASE_WORDS:
            self.assert_erased("abcd", [(3, 1, 2)], word, [("keep", 1), ("cut", "bc"), ("keep", 1)], [(1, 1, None)])

    def test_nothing_to_erase(self):
        for word in ERASE_WORDS:
            self.assert_erased("", [(0, 0, 2)], word, [], [(0, 0, None)])
        for word in ("left", "back", "home"):
            self.assert_erased("ab", [(0, 0, 2)], word, [("keep", 2)], [(0, 0, None)])
        for word in ("right", "on", "end"):
            self.assert_erased("ab", [(2, 2, 2)], word, [("keep", 2)], [(2, 2, None)])

    def test_ones_that_come_together(self):
        self.assert_erased("abcd", [(1, 1, None), (3, 3, None)], "back", [("cut", "abc"), ("keep", 1)], [(0, 0, None)])
        self.assert_erased("abcd", [(1, 1, None), (2, 2, None)], "left", [("cut", "ab"), ("keep", 2)], [(0, 0, None)])
        self.assert_erased("abcd", [(0, 0, 1), (1, 2, 2), (3, 3, 3)], "right",
                           [("cut", "ab"), ("keep", 1), ("cut", "d")], [(0, 0, None), (1, 1, None)])

    def test_rows_beside_plain_texts(self):
        chance = random.Random(18)
        for number in range(400):
            text = some_text(chance, 25, "ab- \n")
            paper = paper_of(text)
            cursors = some_cursors(chance, len(text))
            for word in ERASE_WORDS:
                change, behind = erased(paper, cursors, word)
                told, plain_change, plain_behind = erased_plainly(text, cursors, word)
                self.assertEqual((done(text, change), change, behind), (told, plain_change, plain_behind))

    def test_forty_cursors(self):
        text = "ab" * 40
        cursors = [(2 * number + 1, 2 * number + 1, None) for number in range(40)]
        change, behind = erased(paper_of(text), cursors, "left")
        self.assertEqual((done(text, change), behind), ("b" * 40, [(place, place, None) for place in range(40)]))
        change, behind = erased(paper_of(text), cursors, "home")
        self.assertEqual((done(text, change), behind), ("b", [(0, 0, None)]))

    def test_refusals(self):
        for cursors in NO_CURSORS:
            for word in ("left", "up", None, Odd()):
                with self.assertRaises(NoCursor):
                    erased(paper_of("abc"), cursors, word)
        words = ["", "up", "down", "top", "bottom", "Left", "lef", "left ", "\t", 0, (), ("left",), ["left"]]
        for word in other_kinds() + words:
            with self.assertRaises(BadDeed):
                erased(paper_of("abc"), [(0, 0, None)], word)

    def test_what_is_handed_in_stays(self):
        paper, cursors = paper_of("abc"), [(1, 1, 3), (2, 3, None)]
        kept = list(cursors)
        told = erased(paper, cursors, "left")
        self.assertEqual((cursors, paper.text()), (kept, "abc"))
        told[0].clear()
        told[1].clear()
        self.assertEqual(erased(paper, cursors, "left"), ([("cut", "a"), ("keep", 1), ("cut", "c")],
                                                          [(0, 0, None), (1, 1, None)]))


class TakenTest(unittest.TestCase):
    def test_ordinary_ones(self):
        self.assertEqual(taken(paper_of("ab\ncd"), [(0, 0, None), (3, 1, 2), (3, 5, None)]), ["", "b\n", "cd"])
        self.assertEqual(taken(paper_of(""), [(0, 0, None)]), [""])

    def test_rows_beside_plain_texts(self):
        chance = random.Random(19)
        for number in range(200):
            text = some_text(chance, 25)
            cursors = some_cursors(chance, len(text))
            told = [text[min(cursor[:2]):max(cursor[:2])] for cursor in cursors]
            self.assertEqual(taken(paper_of(text), cursors), told)

    def test_taken_and_entered_again(self):
        paper, cursors = paper_of("abcdef"), [(0, 2, None), (5, 3, None)]
        change, behind = entered(paper, cursors, taken(paper, cursors))
        self.assertEqual(paper.changed(change).text(), "abcdef")

    def test_refusals(self):
        for cursors in NO_CURSORS + [[(place, place, None) for place in range(41)]]:
            with self.assertRaises(NoCursor):
                taken(paper_of("abc"), cursors)


if __name__ == "__main__":
    unittest.main()
