import itertools
import random
import unittest

from inkloom.nodes import ends_of, height_of, joined, met, parted, pieces_of, size_of
from inkloom.stock import Stock

from samples import faults_of_node, least_pieces

TEXT = "ab\ncd\n\nefg hij\n\n\nk" * 40


def stock_and_pieces(many, seed=1):
    """A stock, and pieces that lie anywhere in it."""
    chance = random.Random(seed)
    stock = Stock()
    stock.put(TEXT[:300])
    stock.put(TEXT[300:])
    pieces = []
    for number in range(many):
        begin = chance.randrange(len(TEXT))
        size = chance.randrange(1, min(9, len(TEXT) - begin) + 1)
        pieces.append((begin, size, TEXT[begin:begin + size].count("\n")))
    return stock, pieces


def node_of(pieces):
    node = None
    for piece in pieces:
        node = joined(node, piece, None)
    return node


def text_of(pieces):
    return "".join(TEXT[begin:begin + size] for begin, size, ends in pieces)


class NodesTest(unittest.TestCase):
    def assert_node(self, node, pieces, stock):
        self.assertEqual(pieces_of(node), pieces)
        self.assertEqual(faults_of_node(node, stock), [])
        self.assertEqual(size_of(node), sum(piece[1] for piece in pieces))
        self.assertEqual(ends_of(node), sum(piece[2] for piece in pieces))
        self.assertGreaterEqual(len(pieces), least_pieces(height_of(node)))

    def test_none(self):
        self.assertEqual([height_of(None), size_of(None), ends_of(None)], [0, 0, 0])
        self.assertEqual(pieces_of(None), [])
        self.assertIsNone(met(None, None))
        self.assertEqual(parted(None, 0, Stock()), (None, None))

    def test_one_piece(self):
        node = joined(None, (0, 3, 1), None)
        self.assertEqual(node, (None, (0, 3, 1), None, 1, 3, 1))
        self.assertEqual([height_of(node), size_of(node), ends_of(node)], [1, 3, 1])
        self.assertEqual(pieces_of(node), [(0, 3, 1)])
        self.assertEqual(met(None, node), node)
        self.assertEqual(met(node, None), node)

    def test_three_pieces(self):
        left, right = joined(None, (0, 1, 0), None), joined(None, (7, 4, 2), None)
        node = joined(left, (3, 2, 1), right)
        self.assertEqual(node, (left, (3, 2, 1), right, 2, 7, 3))

    def test_joined_one_by_one_at_either_end(self):
        stock, pieces = stock_and_pieces(300)
        node = other = None
        for number, piece in enumerate(pieces):
            node = joined(node, piece, None)
            other = joined(None, piece, other)
            if number % 13 == 0 or number < 40:
                self.assert_node(node, pieces[:number + 1], stock)
                self.assert_node(other, pieces[:number + 1][::-1], stock)
        self.assertLess(height_of(node), 13)

    def test_joined_in_the_midst(self):
        chance = random.Random(3)
        stock, pieces = stock_and_pieces(200)
        node, row = None, []
        for piece in pieces:
            number = chance.randrange(len(row) + 1)
            place = sum(one[1] for one in row[:number])
            left, right = parted(node, place, stock)
            self.assertEqual(pieces_of(left), row[:number])
            row.insert(number, piece)
            node = joined(left, piece, right)
            self.assert_node(node, row, stock)

    def test_nodes_of_unlike_heights(self):
        stock, pieces = stock_and_pieces(140)
        sizes = [0, 1, 2, 3, 4, 5, 7, 8, 12, 15, 16, 20, 31, 33, 63, 64]
        for one, other in itertools.product(sizes, sizes):
            left, right = node_of(pieces[:one]), node_of(pieces[one + 1:one + 1 + other])
            row = pieces[:one + 1 + other]
            self.assert_node(joined(left, pieces[one], right), row, stock)
            self.assert_node(met(left, right), row[:one] + row[one + 1:], stock)

    def test_heights_grow_by_one_at_most(self):
        stock, pieces = stock_and_pieces(100)
        for one, other in itertools.product(range(0, 50, 3), range(0, 50, 3)):
            left, right = node_of(pieces[:one]), node_of(pieces[:other])
            highest = max(height_of(left), height_of(right))
            self.assertIn(height_of(joined(left, pieces[0], right)), (highest, highest + 1))

    def test_parted_at_each_place(self):
        for many in (1, 2, 3, 5, 8, 21, 40):
            stock, pieces = stock_and_pieces(many, many)
            node = node_of(pieces)
            text = text_of(pieces)
            for place in range(len(text) + 1):
                left, right = parted(node, place, stock)
                self.assertEqual(text_of(pieces_of(left)), text[:place])
                self.assertEqual(text_of(pieces_of(right)), text[place:])
                self.assert_node(left, pieces_of(left), stock)
                self.assert_node(right, pieces_of(right), stock)
                self.assertLessEqual(len(pieces_of(left)) + len(pieces_of(right)), many + 1)
            self.assertEqual(pieces_of(node), pieces)

    def test_pieces_stay_as_they_are(self):
        stock, pieces = stock_and_pieces(30)
        node = node_of(pieces)
        places = [sum(piece[1] for piece in pieces[:number]) for number in range(31)]
        for number, place in enumerate(places):
            left, right = parted(node, place, stock)
            self.assertEqual((pieces_of(left), pieces_of(right)), (pieces[:number], pieces[number:]))

    def test_both_ends(self):
        stock, pieces = stock_and_pieces(9)
        node = node_of(pieces)
        left, right = parted(node, 0, stock)
        self.assertEqual((left, pieces_of(right)), (None, pieces))
        left, right = parted(node, size_of(node), stock)
        self.assertEqual((pieces_of(left), right), (pieces, None))

    def test_within_a_piece(self):
        stock = Stock()
        stock.put("a\nb\n\nc")
        node = joined(None, (0, 6, 3), None)
        self.assertEqual(parted(node, 2, stock), ((None, (0, 2, 1), None, 1, 2, 1), (None, (2, 4, 2), None, 1, 4, 2)))
        self.assertEqual(pieces_of(parted(node, 5, stock)[0]), [(0, 5, 3)])
        self.assertEqual(pieces_of(parted(node, 5, stock)[1]), [(5, 1, 0)])
        self.assertEqual(pieces_of(parted(node, 1, stock)[1]), [(1, 5, 3)])

    def test_neighbours_in_the_stock_stay_two_pieces(self):
        left, right = joined(None, (0, 2, 0), None), joined(None, (2, 2, 1), None)
        self.assertEqual(pieces_of(met(left, right)), [(0, 2, 0), (2, 2, 1)])
        self.assertEqual(pieces_of(joined(left, (2, 1, 1), None)), [(0, 2, 0), (2, 1, 1)])

    def test_nodes_made_ahead_stay(self):
        stock, pieces = stock_and_pieces(50)
        node = node_of(pieces)
        kept = repr(node)
        parted(node, 17, stock)
        met(node, node)
        joined(node, pieces[0], joined(None, pieces[1], None))
        pieces_of(node).clear()
        self.assertEqual(repr(node), kept)
        self.assertEqual(pieces_of(node), pieces)

    def test_rows_of_parting_and_meeting(self):
        chance = random.Random(4)
        stock, pieces = stock_and_pieces(60)
        node, text = node_of(pieces), text_of(pieces)
        for number in range(300):
            place = chance.randrange(len(text) + 1)
            left, right = parted(node, place, stock)
            node, text = met(right, left), text[place:] + text[:place]
            self.assertEqual(faults_of_node(node, stock), [])
            self.assertEqual(text_of(pieces_of(node)), text)


if __name__ == "__main__":
    unittest.main()
