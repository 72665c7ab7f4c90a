import random
import unittest

from inkloom.errors import BadText, NoPlace
from inkloom.stock import Stock

from samples import GOOD_SIGNS, no_texts, no_wholes, some_text


def stock_of(*texts):
    stock = Stock()
    for text in texts:
        stock.put(text)
    return stock


class StockTest(unittest.TestCase):
    def test_a_new_one(self):
        stock = Stock()
        self.assertEqual(stock.many(), 0)
        self.assertEqual(stock.read(0, 0), "")

    def test_put_tells_where_a_text_begins(self):
        stock = Stock()
        self.assertEqual([stock.put(text) for text in ("abc", "", "d\n", "", "", "e")], [0, 3, 3, 5, 5, 5])
        self.assertEqual(stock.many(), 6)
        self.assertEqual(stock.read(0, 6), "abcd\ne")

    def test_the_empty_text_is_let(self):
        stock = Stock()
        self.assertEqual([stock.put(""), stock.put(""), stock.many()], [0, 0, 0])
        self.assertEqual(stock.put("a"), 0)
        self.assertEqual(stock.read(0, 1), "a")

    def test_each_sign(self):
        stock = stock_of(*GOOD_SIGNS)
        self.assertEqual(stock.read(0, 95), "".join(GOOD_SIGNS))
        for place, sign in enumerate(GOOD_SIGNS):
            self.assertEqual(stock.read(place, 1), sign)

    def test_all_reads(self):
        for texts in ([], ["a"], ["abc"], ["ab", "c", "", "def", "g"], ["", "", "a"], ["a", ""]):
            stock = stock_of(*texts)
            whole = "".join(texts)
            self.assertEqual(stock.many(), len(whole))
            for begin in range(-2, len(whole) + 3):
                for size in range(-2, len(whole) + 3):
                    if begin >= 0 and size >= 0 and begin + size <= len(whole):
                        self.assertEqual(stock.read(begin, size), whole[begin:begin + size])
                    else:
                        with self.assertRaises(NoPlace, msg=(whole, begin, size)):
                            stock.read(begin, size)

    def test_what_was_put_long_ago_is_read_as_it_was_put(self):
        chance = random.Random(8)
        stock = Stock()
        put = []
        for number in range(3000):
            text = some_text(chance, 5)
            put.append((stock.put(text), text))
        whole = "".join(text for begin, text in put)
        self.assertEqual(stock.many(), len(whole))
        for begin, text in put:
            self.assertEqual(stock.read(begin, len(text)), text)
        self.assertEqual(stock.read(0, len(whole)), whole)
        for number in range(1000):
            begin = chance.randrange(len(whole))
            end = chance.randrange(begin, len(whole) + 1)
            self.assertEqual(stock.read(begin, end - begin), whole[begin:end])

    def test_two_stocks_know_nothing_of_one_another(self):
        one, other = Stock(), Stock()
        one.put("abc")
        self.assertEqual((one.many(), other.many()), (3, 0))
        self.assertEqual(other.put("xy"), 0)
        self.assertEqual((one.read(0, 3), other.read(0, 2)), ("abc", "xy"))
        self.assertEqual(Stock().many(), 0)

    def test_reads_that_are_refused(self):
        stock = stock_of("abc")
        for begin, size in [(-1, 0), (-1, 1), (0, -1), (0, 4), (3, 1), (4, 0), (4, -1), (2, 2), (10 ** 30, 0),
                            (0, 10 ** 30), (-3, 3), (1, -1)]:
            with self.assertRaises(NoPlace, msg=(begin, size)):
                stock.read(begin, size)
        for number, thing in enumerate(no_wholes()):
            for begin, size in [(thing, 0), (0, thing), (thing, thing), (thing, 9), (9, thing), (3, thing)]:
                with self.assertRaises(NoPlace, msg=number):
                    stock.read(begin, size)
        self.assertEqual((stock.many(), stock.read(0, 3)), (3, "abc"))

    def test_what_is_no_text_is_refused_and_changes_nothing(self):
        stock = stock_of("abc")
        for number, thing in enumerate(no_texts()):
            with self.assertRaises(BadText, msg=number):
                stock.put(thing)
            self.assertEqual((stock.many(), stock.read(0, 3)), (3, "abc"))
        self.assertEqual(stock.put("d"), 3)

    def test_reading_changes_nothing(self):
        stock = stock_of("abc", "de")
        for number in range(3):
            self.assertEqual(stock.read(1, 3), "bcd")
            self.assertEqual(stock.many(), 5)


if __name__ == "__main__":
    unittest.main()
