import itertools
import random
import unittest

from inkloom.cursors import settled
from inkloom.errors import BadDeed, NoCursor
from inkloom.papers import paper_of
from inkloom.steps import OTHER_SIGNS, WORD_SIGNS, all_stepped, stepped

from samples import GOOD_SIGNS, STEP_WORDS, Odd, no_wholes, other_kinds, some_change, some_text, stepped_plainly, texts


class SteppedTest(unittest.TestCase):
    def assert_steps(self, text, cursor, word, hold, told):
        self.assertEqual(stepped(paper_of(text), cursor, word, hold), told)

    def test_left_and_right(self):
        self.assert_steps("abc", (1, 1, 4), "left", False, (0, 0, None))
        self.assert_steps("abc", (1, 1, 4), "right", False, (2, 2, None))
        self.assert_steps("abc", (0, 0, None), "left", False, (0, 0, None))
        self.assert_steps("abc", (3, 3, None), "right", False, (3, 3, None))
        self.assert_steps("a\nb", (2, 2, None), "left", False, (1, 1, None))

    def test_left_and_right_of_one_that_is_not_empty(self):
        for cursor in ((1, 3, 2), (3, 1, 2)):
            self.assert_steps("abcd", cursor, "left", False, (1, 1, None))
            self.assert_steps("abcd", cursor, "right", False, (3, 3, None))
        self.assert_steps("abcd", (1, 3, 2), "left", True, (1, 2, None))
        self.assert_steps("abcd", (3, 1, 2), "left", True, (3, 0, None))
        self.assert_steps("abcd", (1, 3, 2), "right", True, (1, 4, None))
        self.assert_steps("abcd", (3, 1, 2), "right", True, (3, 2, None))

    def test_other_words_lead_from_the_head(self):
        self.assert_steps("ab cd ef", (7, 3, None), "back", False, (0, 0, None))
        self.assert_steps("ab cd ef", (0, 3, None), "on", False, (5, 5, None))
        self.assert_steps("ab\ncd", (5, 1, None), "end", False, (2, 2, None))
        self.assert_steps("ab\ncd", (5, 1, None), "down", False, (4, 4, 1))

    def test_home_and_end(self):
        for place, told in [(0, 0), (2, 0), (3, 3), (4, 3), (5, 5), (6, 6), (8, 6)]:
            self.assert_steps("ab\nc\n\nde", (place, place, 1), "home", False, (told, told, None))
        for place, told in [(0, 2), (2, 2), (3, 4), (4, 4), (5, 5), (6, 8), (8, 8)]:
            self.assert_steps("ab\nc\n\nde", (place, place, 1), "end", False, (told, told, None))

    def test_top_and_bottom(self):
        self.assert_steps("ab\ncd", (1, 3, 5), "top", True, (1, 0, None))
        self.assert_steps("ab\ncd", (1, 3, 5), "bottom", False, (5, 5, None))

    def test_back_and_on(self):
        text = "ab, c9-Z\n\n_x"
        self.assertEqual([stepped(paper_of(text), (place, place, 1), "back", False)[1] for place in range(13)],
                         [0, 0, 0, 0, 0, 4, 4, 4, 7, 7, 7, 7, 11])
        self.assertEqual([stepped(paper_of(text), (place, place, 1), "on", False)[1] for place in range(13)],
                         [2, 2, 6, 6, 6, 6, 8, 8, 12, 12, 12, 12, 12])

    def test_back_and_on_where_no_letter_comes(self):
        self.assert_steps("ab--", (2, 2, None), "on", False, (4, 4, None))
        self.assert_steps("--ab", (2, 2, None), "back", True, (2, 0, None))

    def test_which_signs_are_letters_and_figures(self):
        self.assertEqual(sorted(WORD_SIGNS + OTHER_SIGNS), sorted(GOOD_SIGNS))
        for sign in GOOD_SIGNS:
            word = "0" <= sign <= "9" or "a" <= sign <= "z" or "A" <= sign <= "Z"
            self.assert_steps("a" + sign, (2, 2, None), "back", False, (0, 0, None))
            self.assert_steps("-" + sign + "-", (1, 1, None), "on", False, (2, 2, None) if word else (3, 3, None))
            self.assert_steps("-" + sign, (2, 2, None), "back", False, (1, 1, None) if word else (0, 0, None))

    def test_far_words(self):
        for many in (1, 63, 64, 65, 191, 192, 193, 1000):
            text = "-" + "a" * many + " " * many + "b"
            end = len(text)
            self.assert_steps(text, (0, 0, None), "on", False, (many + 1, many + 1, None))
            self.assert_steps(text, (many + 1, many + 1, None), "on", False, (end, end, None))
            self.assert_steps(text, (end - 1, end - 1, None), "back", False, (1, 1, None))
            self.assert_steps("a" * many, (many, many, None), "back", True, (many, 0, None))
            self.assert_steps("." * many, (0, 0, None), "on", True, (0, many, None))

    def test_up_and_down(self):
        text = "abcd\nx\n\nefgh"
        self.assert_steps(text, (3, 3, None), "down", False, (6, 6, 3))
        self.assert_steps(text, (6, 6, 3), "down", False, (7, 7, 3))
        self.assert_steps(text, (7, 7, 3), "down", False, (11, 11, 3))
        self.assert_steps(text, (11, 11, 3), "up", True, (11, 7, 3))
        self.assert_steps(text, (11, 11, None), "up", False, (7, 7, 3))
        self.assert_steps(text, (6, 6, 0), "up", False, (0, 0, 0))
        self.assert_steps(text, (6, 6, 10 ** 30), "up", False, (4, 4, 10 ** 30))

    def test_up_from_the_first_and_down_from_the_last_line(self):
        self.assert_steps("abc\nde", (2, 2, None), "up", False, (0, 0, 2))
        self.assert_steps("abc\nde", (2, 2, 5), "up", True, (2, 0, 5))
        self.assert_steps("abc\nde", (5, 5, None), "down", False, (6, 6, 1))
        self.assert_steps("abc\nde", (5, 5, 0), "down", False, (6, 6, 0))
        self.assert_steps("", (0, 0, None), "up", False, (0, 0, 0))
        self.assert_steps("", (0, 0, None), "down", True, (0, 0, 0))

    def test_the_empty_text(self):
        for word, hold in itertools.product(STEP_WORDS, (True, False)):
            goal = 5 if word in ("up", "down") else None
            self.assert_steps("", (0, 0, 5), word, hold, (0, 0, goal))

    def test_all_small_texts(self):
        for text in texts("a-\n", 3):
            paper = paper_of(text)
            places = range(len(text) + 1)
            for anchor, head, goal in itertools.product(places, places, (None, 0, 2)):
                for word, hold in itertools.product(STEP_WORDS, (True, False)):
                    told = stepped(paper, (anchor, head, goal), word, hold)
                    self.assertEqual(told, stepped_plainly(text, (anchor, head, goal), word, hold))

    def test_papers_of_many_pieces(self):
        chance = random.Random(15)
        for number in range(40):
            text = some_text(chance, 40, "ab-\n")
            paper = paper_of(text)
            for more in range(6):
                change = some_change(chance, paper.text(), "ab-\n")
                paper = paper.changed(change)
            text = paper.text()
            for word, hold, head in itertools.product(STEP_WORDS, (True, False), range(len(text) + 1)):
                cursor = (chance.randrange(len(text) + 1), head, chance.choice([None, 0, 1, 3]))
                self.assertEqual(stepped(paper, cursor, word, hold), stepped_plainly(text, cursor, word, hold))


def no_words():
    words = ["", "Left", "leftx", "lef", " left", "\t", "erase", "hold"]
    return other_kinds() + words + [0, 1, (), ("left",), [], ["left"], {"left": 1}]


class RefusalsTest(unittest.TestCase):
    def test_no_cursor(self):
        paper = paper_of("abc")
        for cursor in [(0, 4, None), (-1, 0, None), (0, 0, -1), (0, 0), [0, 0, None], (0, 0, None, 0), Odd(), None, ()]:
            for word, hold in [("left", True), ("", True), (Odd(), Odd()), ("left", None)]:
                with self.assertRaises(NoCursor):
                    stepped(paper, cursor, word, hold)
                with self.assertRaises(NoCursor):
                    all_stepped(paper, [cursor], word, hold)
        for thing in no_wholes():
            for cursor in [(thing, 0, None), (0, thing, None)]:
                with self.assertRaises(NoCursor):
                    stepped(paper, cursor, "left", False)
        for cursors in [[], None, Odd(), (), ((0, 0, None),), [(0, 2, None), (1, 3, None)], [(1, 1, 1), (0, 0, 0)],
                        [(place, place, None) for place in range(41)]]:
            with self.assertRaises(NoCursor):
                all_stepped(paper_of("a" * 50), cursors, Odd(), Odd())

    def test_bad_words_and_holds(self):
        paper = paper_of("abc")
        for word in no_words():
            for hold in (True, False, None, Odd()):
                with self.assertRaises(BadDeed):
                    stepped(paper, (0, 0, None), word, hold)
                with self.assertRaises(BadDeed):
                    all_stepped(paper, [(0, 0, None)], word, hold)
        holds = [thing for thing in other_kinds() if thing is not True and thing is not False]
        for hold in holds + [0, 1, "", "True", (), [], [True]]:
            for word in STEP_WORDS:
                with self.assertRaises(BadDeed):
                    stepped(paper, (0, 0, None), word, hold)
                with self.assertRaises(BadDeed):
                    all_stepped(paper, [(0, 0, None)], word, hold)


class AllSteppedTest(unittest.TestCase):
    def test_all_cursors_at_once(self):
        cursors = [(0, 0, None), (2, 2, None), (5, 4, 1)]
        self.assertEqual(all_stepped(paper_of("abc\nde"), cursors, "right", False),
                         [(1, 1, None), (3, 3, None), (5, 5, None)])
        self.assertEqual(all_stepped(paper_of("abc\nde"), cursors, "right", True),
                         [(0, 1, None), (2, 3, None), (5, 5, None)])

    def test_they_are_settled(self):
        paper = paper_of("ab cd")
        self.assertEqual(all_stepped(paper, [(0, 0, None), (1, 1, None), (4, 4, None)], "top", False), [(0, 0, None)])
        self.assertEqual(all_stepped(paper, [(1, 1, None), (2, 2, None), (4, 4, None)], "home", True), [(4, 0, None)])
        self.assertEqual(all_stepped(paper, [(0, 0, 3), (1, 1, 4)], "up", False), [(0, 0, None)])
        self.assertEqual(all_stepped(paper, [(0, 0, 3)], "up", False), [(0, 0, 3)])

    def test_rows_beside_plain_texts(self):
        chance = random.Random(16)
        for number in range(300):
            text = some_text(chance, 30, "ab-\n")
            cursors = []
            for more in range(chance.randrange(1, 9)):
                anchor = chance.randrange(len(text) + 1)
                head = min(len(text), max(0, anchor + chance.randrange(-2, 3)))
                cursors.append((anchor, head, chance.choice([None, 2])))
            cursors = settled(cursors)
            kept = list(cursors)
            paper = paper_of(text)
            for word, hold in itertools.product(STEP_WORDS, (True, False)):
                told = settled([stepped_plainly(text, cursor, word, hold) for cursor in cursors])
                self.assertEqual(all_stepped(paper, cursors, word, hold), told)
                self.assertEqual(cursors, kept)

    def test_forty(self):
        paper = paper_of("ab\n" * 40)
        cursors = [(3 * number, 3 * number, None) for number in range(40)]
        self.assertEqual(all_stepped(paper, cursors, "end", True), [(3 * row, 3 * row + 2, None) for row in range(40)])


if __name__ == "__main__":
    unittest.main()
