import unittest

from inkloom.errors import BadText
from inkloom.signs import is_between, is_text, is_whole, need_text

from samples import GOOD_SIGNS, Odd, no_texts, no_wholes

WHOLES = [0, 1, -1, 2, 37, 999999999, -5, 10 ** 40, -10 ** 40]
LONG_TEXT = "".join(GOOD_SIGNS) * 2000


class IsWholeTest(unittest.TestCase):
    def test_ints_are_whole(self):
        for number in WHOLES:
            self.assertIs(is_whole(number), True, number)

    def test_true_and_false_are_none(self):
        self.assertIs(is_whole(True), False)
        self.assertIs(is_whole(False), False)

    def test_other_kinds_are_none(self):
        for place, thing in enumerate(no_wholes()):
            self.assertIs(is_whole(thing), False, place)


class IsBetweenTest(unittest.TestCase):
    def test_both_bounds_are_within(self):
        self.assertEqual([is_between(number, 2, 4) for number in range(1, 6)], [False, True, True, True, False])

    def test_other_kinds_are_not_between(self):
        for place, thing in enumerate(no_wholes()):
            self.assertIs(is_between(thing, 0, 1), False, place)


class TextTest(unittest.TestCase):
    def assert_text(self, thing):
        self.assertIs(is_text(thing), True, thing[:50])
        self.assertIsNone(need_text(thing))

    def assert_no_text(self, thing, message):
        self.assertIs(is_text(thing), False, message)
        with self.assertRaises(BadText, msg=message):
            need_text(thing)

    def test_the_empty_text(self):
        self.assert_text("")

    def test_each_good_sign_alone_and_among_others(self):
        self.assertEqual(len(GOOD_SIGNS), 95)
        for sign in GOOD_SIGNS:
            for text in (sign, sign + "a", "a" + sign, "a" + sign + "a", sign * 3):
                self.assert_text(text)

    def test_all_signs_in_a_long_text(self):
        self.assert_text(LONG_TEXT)

    def test_a_tab_makes_it_none(self):
        for text in ("\t", "a\t", "\ta", "a\tb", "\n\t", " \t ", LONG_TEXT + "\t", "\t" + LONG_TEXT):
            self.assert_no_text(text, text[:50])

    def test_the_percent_sign_is_no_sign_of_a_text(self):
        for text in ("%", "a%", "%a", "a%a"):
            self.assert_no_text(text, text)

    def test_other_kinds_are_no_texts(self):
        for place, thing in enumerate(no_texts()):
            self.assert_no_text(thing, place)

    def test_an_odd_thing_is_only_asked_for_its_kind(self):
        self.assert_no_text(Odd(), "odd")


if __name__ == "__main__":
    unittest.main()
