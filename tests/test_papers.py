import copy
import random
import unittest

from inkloom.changes import done, swapped
from inkloom.errors import BadChange, BadFit, BadText, NoPlace
from inkloom.nodes import pieces_of
from inkloom.papers import Paper, paper_of

from samples import Odd, changes, faults_of_node, least_pieces, no_changes, no_texts, no_wholes, some_change
from samples import some_text, texts


def lines_of(text):
    return text.split("\n")


class PaperCase(unittest.TestCase):
    def assert_paper(self, paper, text):
        """All that a paper tells, beside a plain text."""
        self.assertIsInstance(paper, Paper)
        self.assertEqual(paper.text(), text)
        self.assertEqual(paper.size(), len(text))
        lines = lines_of(text)
        self.assertEqual(paper.lines(), len(lines))
        self.assertEqual("".join(paper.pieces()), text)
        self.assertNotIn("", paper.pieces())
        self.assertEqual(paper.height(), 0 if paper.node is None else paper.node[3])
        self.assertGreaterEqual(len(paper.pieces()), least_pieces(paper.height()))
        self.assertEqual(faults_of_node(paper.node, paper.stock), [])
        row = pieces_of(paper.node)
        self.assertEqual([paper.stock.read(piece[0], piece[1]) for piece in row], paper.pieces())
        for one, other in zip(row, row[1:]):
            self.assertNotEqual(one[0] + one[1], other[0])
        self.assertEqual([paper.line_size(line) for line in range(len(lines))], [len(line) for line in lines])

    def assert_places(self, paper, text):
        place = 0
        for number, line in enumerate(lines_of(text)):
            for column in range(len(line) + 1):
                self.assertEqual(paper.line_at(place), (number, column))
                self.assertEqual(paper.place_at(number, column), place)
                place += 1
        self.assertEqual(place, len(text) + 1)


class PaperOfTest(PaperCase):
    def test_small_texts(self):
        for text in texts("a\n", 5):
            paper = paper_of(text)
            self.assert_paper(paper, text)
            self.assert_places(paper, text)
            self.assertEqual(paper.pieces(), [text] if text else [])
            self.assertEqual(paper.stock.many(), len(text))

    def test_no_signs_no_piece(self):
        paper = paper_of("")
        self.assertIsNone(paper.node)
        self.assertEqual((paper.pieces(), paper.height(), paper.lines(), paper.size()), ([], 0, 1, 0))
        self.assertEqual((paper.line_at(0), paper.place_at(0, 0), paper.line_size(0)), ((0, 0), 0, 0))
        self.assertEqual(paper.part(0, 0), "")

    def test_two_papers_have_two_stocks(self):
        one, other = paper_of("a"), paper_of("a")
        one.changed([("put", "x"), ("keep", 1)])
        self.assertEqual((one.stock.many(), other.stock.many()), (2, 1))

    def test_what_is_no_text(self):
        for number, thing in enumerate(no_texts()):
            with self.assertRaises(BadText, msg=number):
                paper_of(thing)


class PartTest(PaperCase):
    def papers(self):
        paper = paper_of("ab\ncd")
        yield paper, "ab\ncd"
        paper = paper.changed([("keep", 1), ("put", "x\n"), ("keep", 3), ("put", "yz"), ("keep", 1)])
        yield paper, "ax\nb\ncyzd"
        yield paper.changed([("keep", 2), ("cut", "\nb\n"), ("keep", 4)]), "axcyzd"
        yield paper_of(""), ""

    def test_all_parts(self):
        for paper, text in self.papers():
            for begin in range(-2, len(text) + 3):
                for end in range(-2, len(text) + 3):
                    if 0 <= begin <= end <= len(text):
                        self.assertEqual(paper.part(begin, end), text[begin:end])
                    else:
                        with self.assertRaises(NoPlace, msg=(text, begin, end)):
                            paper.part(begin, end)

    def test_other_kinds(self):
        for paper, text in self.papers():
            for number, thing in enumerate(no_wholes()):
                for begin, end in [(thing, 0), (0, thing), (thing, thing), (thing, -1), (-1, thing), (99, thing)]:
                    with self.assertRaises(NoPlace, msg=number):
                        paper.part(begin, end)


class LinesTest(PaperCase):
    def test_wrong_places(self):
        for text in ("", "a", "ab\n\nc", "\n"):
            paper = paper_of(text)
            lines = lines_of(text)
            for thing in [-1, len(text) + 1, 10 ** 30] + no_wholes():
                with self.assertRaises(NoPlace):
                    paper.line_at(thing)
            for thing in [-1, len(lines), 10 ** 30] + no_wholes():
                with self.assertRaises(NoPlace):
                    paper.line_size(thing)
                for column in (0, -1, 99, None, Odd()):
                    with self.assertRaises(NoPlace):
                        paper.place_at(thing, column)
            for number, line in enumerate(lines):
                for thing in [-1, len(line) + 1, 10 ** 30] + no_wholes():
                    with self.assertRaises(NoPlace):
                        paper.place_at(number, thing)

    def test_many_lines(self):
        text = "ab\n\nc\n" * 5000
        paper = paper_of(text)
        self.assertEqual(paper.lines(), 15001)
        for number in range(5000):
            self.assertEqual(paper.place_at(3 * number, 2), 6 * number + 2)
            self.assertEqual(paper.line_at(6 * number + 4), (3 * number + 2, 0))
            self.assertEqual(paper.line_size(3 * number + 2), 1)


class ChangedTest(PaperCase):
    def test_ordinary_changes(self):
        paper = paper_of("hello")
        other = paper.changed([("put", "j"), ("cut", "h"), ("keep", 4), ("put", "!\n")])
        self.assert_paper(other, "jello!\n")
        self.assertEqual(other.pieces(), ["j", "ello", "!\n"])
        self.assert_paper(paper, "hello")
        self.assertIs(other.stock, paper.stock)

    def test_all_small_changes(self):
        for text in texts("ab", 3):
            for change in changes(3):
                paper = paper_of(text)
                try:
                    told = done(text, change)
                except BadFit:
                    with self.assertRaises(BadFit, msg=(text, change)):
                        paper.changed(change)
                    self.assertEqual(paper.stock.many(), len(text))
                else:
                    self.assert_paper(paper.changed(change), told)
                self.assert_paper(paper, text)

    def test_to_no_signs_and_back(self):
        paper = paper_of("ab\n").changed([("cut", "ab\n")])
        self.assert_paper(paper, "")
        self.assertIsNone(paper.node)
        self.assert_paper(paper.changed([]), "")
        self.assert_paper(paper.changed([("put", "c\n")]), "c\n")

    def test_rows_of_changes(self):
        for seed in range(12):
            chance = random.Random(seed)
            text = some_text(chance, 12)
            paper = paper_of(text)
            ahead = []
            stocked = text
            for number in range(120):
                change = some_change(chance, text, parts=chance.choice([1, 2, 6]))
                ahead.append((paper, text, paper.pieces()))
                many = len(paper.pieces())
                paper, text = paper.changed(change), done(text, change)
                stocked += "".join(part[1] for part in change if part[0] == "put")
                self.assert_paper(paper, text)
                self.assertEqual(paper.stock.read(0, paper.stock.many()), stocked)
                puts_and_cuts = [part for part in change if part[0] != "keep"]
                self.assertLessEqual(len(paper.pieces()), many + 2 * len(puts_and_cuts))
                if number % 10 == 0:
                    self.assert_places(paper, text)
                if len(text) > 120:
                    cut = [("keep", 20), ("cut", text[20:])]
                    paper, text = paper.changed(cut), text[:20]
            for old, old_text, pieces in ahead:
                self.assertEqual(old.pieces(), pieces)
                self.assert_paper(old, old_text)

    def test_a_change_that_keeps_all(self):
        paper = paper_of("abc").changed([("keep", 1), ("put", "x"), ("keep", 2)])
        other = paper.changed([("keep", 4)])
        self.assertEqual(other.pieces(), ["a", "x", "bc"])
        self.assertEqual(paper.stock.many(), 4)

    def test_signs_put_one_behind_another_are_one_piece(self):
        paper = paper_of("ab")
        text = "ab"
        for number in range(200):
            change = [("keep", number + 1), ("put", "xy\n"[number % 3]), ("keep", 1)]
            paper, text = paper.changed(change), done(text, change)
            self.assertEqual(len(paper.pieces()), 3)
        self.assert_paper(paper, text)
        self.assert_places(paper, text)

    def test_signs_cut_out_again_leave_one_piece(self):
        paper = paper_of("abcd").changed([("keep", 2), ("put", "xyz"), ("keep", 2)])
        self.assertEqual(paper.pieces(), ["ab", "xyz", "cd"])
        self.assertEqual(paper.changed([("keep", 3), ("cut", "y"), ("keep", 3)]).pieces(), ["ab", "x", "z", "cd"])
        self.assertEqual(paper.changed([("keep", 2), ("cut", "xyz"), ("keep", 2)]).pieces(), ["abcd"])

    def test_signs_put_at_many_places_and_cut_out_again(self):
        chance = random.Random(9)
        text = "ab\n" * 20
        paper = paper_of(text)
        for number in range(20):
            change = [("keep", 4 * number + 1), ("put", "X"), ("keep", len(text) - 4 * number - 1)]
            paper, text = paper.changed(change), done(text, change)
            self.assertEqual(len(paper.pieces()), 2 * number + 3)
        for number in range(20, 0, -1):
            place = chance.choice([place for place, sign in enumerate(text) if sign == "X"])
            change = [("keep", place), ("cut", "X"), ("keep", len(text) - place - 1)]
            paper, text = paper.changed(change), done(text, change)
            self.assert_paper(paper, text)
            self.assertEqual(len(paper.pieces()), 2 * number - 1)

    def test_two_puts_of_one_change_around_a_cut_sign(self):
        paper = paper_of("abc").changed([("put", "x"), ("cut", "a"), ("keep", 2)])
        self.assertEqual(paper.pieces(), ["x", "bc"])
        paper = paper_of("abc").changed([("keep", 1), ("put", "x"), ("keep", 1), ("put", "y"), ("cut", "c")])
        self.assertEqual(paper.pieces(), ["a", "x", "b", "y"])
        paper = paper.changed([("keep", 2), ("cut", "b"), ("keep", 1)])
        self.assertEqual(paper.pieces(), ["a", "xy"])

    def test_neighbours_in_the_stock_with_line_feeds(self):
        paper = paper_of("a\nb\nc").changed([("keep", 2), ("put", "x"), ("keep", 3)])
        paper = paper.changed([("keep", 2), ("cut", "x"), ("keep", 3)])
        self.assertEqual(pieces_of(paper.node), [(0, 5, 2)])
        self.assert_places(paper, "a\nb\nc")

    def test_a_change_puts_just_its_own_texts_in_their_order(self):
        paper = paper_of("abc")
        paper.changed([("put", "1"), ("cut", "a"), ("keep", 1), ("put", "22"), ("keep", 1), ("put", "3")])
        self.assertEqual(paper.stock.read(0, paper.stock.many()), "abc1223")
        paper.changed([("cut", "abc")])
        paper.changed([("keep", 3)])
        self.assertEqual(paper.stock.many(), 7)

    def test_two_papers_of_one_paper(self):
        paper = paper_of("abc")
        one = paper.changed([("keep", 1), ("put", "x"), ("keep", 2)])
        other = paper.changed([("keep", 1), ("put", "y"), ("keep", 2)])
        more = one.changed([("keep", 2), ("put", "z"), ("keep", 2)])
        self.assertEqual([each.text() for each in (paper, one, other, more)], ["abc", "axbc", "aybc", "axzbc"])
        self.assertEqual(more.pieces(), ["a", "x", "z", "bc"])
        self.assertEqual(paper.stock.read(0, 6), "abcxyz")

    def test_many_pieces(self):
        many = 3000
        swaps = [(2 * number + 1, 2 * number + 1, "x") for number in range(many)]
        change = swapped("ab" * many, swaps)
        paper = paper_of("ab" * many).changed(change)
        self.assertEqual(paper.text(), "axb" * many)
        self.assertEqual(len(paper.pieces()), 2 * many + 1)
        self.assertEqual(faults_of_node(paper.node, paper.stock), [])
        for place in range(0, 3 * many, 311):
            self.assertEqual(paper.part(place, place + 3), ("axb" * many)[place:place + 3])

    def test_what_is_no_change(self):
        paper = paper_of("a")
        for number, thing in enumerate(no_changes()):
            with self.assertRaises(BadChange, msg=number):
                paper.changed(thing)
        self.assertEqual((paper.stock.many(), paper.text()), (1, "a"))

    def test_what_does_not_fit_puts_nothing(self):
        paper = paper_of("abc")
        for change in ([], [("put", "x")], [("put", "x"), ("keep", 2)], [("put", "x"), ("keep", 4)],
                       [("put", "x"), ("keep", 1), ("put", "y"), ("cut", "c"), ("keep", 1)],
                       [("put", "x"), ("cut", "abd")], [("keep", 2), ("put", "x"), ("cut", "cd")],
                       [("put", "x"), ("keep", 2), ("cut", "b")], [("cut", "a"), ("keep", 1), ("cut", "b")]):
            with self.assertRaises(BadFit, msg=change):
                paper.changed(change)
            self.assertEqual((paper.stock.many(), paper.text()), (3, "abc"))

    def test_bad_change_ahead_of_bad_fit(self):
        paper = paper_of("abc")
        for change in ([("put", "x"), ("keep", 9), ("keep", 0)], [("cut", "x"), ("put", "y"), ("keep", 2)], Odd()):
            with self.assertRaises(BadChange):
                paper.changed(change)
        self.assertEqual(paper.stock.many(), 3)

    def test_what_is_handed_in_and_told_is_not_kept(self):
        change = [("keep", 1), ("put", "x"), ("cut", "b"), ("keep", 1)]
        kept = copy.deepcopy(change)
        paper = paper_of("abc").changed(change)
        self.assertEqual(change, kept)
        change.clear()
        told = paper.pieces()
        told.append("more")
        self.assertEqual(paper.pieces(), ["a", "x", "c"])
        self.assertEqual(paper.text(), "axc")


if __name__ == "__main__":
    unittest.main()
