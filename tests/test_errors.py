import unittest

from inkloom import errors

NAMES = ["BadText", "BadChange", "BadFit", "NoPlace", "BadSide", "NoMark", "NoNode", "NoCursor", "BadDeed",
         "BadLetter", "NoLetter", "NoHand", "NoNote"]


class ErrorsTest(unittest.TestCase):
    def test_ink_error_stands_straight_under_value_error(self):
        self.assertEqual(errors.InkError.__bases__, (ValueError,))

    def test_the_thirteen_stand_straight_under_ink_error(self):
        self.assertEqual(len(NAMES), 13)
        for name in NAMES:
            with self.subTest(name=name):
                self.assertEqual(getattr(errors, name).__bases__, (errors.InkError,))
                self.assertTrue(issubclass(getattr(errors, name), ValueError))
                self.assertEqual(getattr(errors, name).__name__, name)

    def test_none_is_under_another(self):
        for one in NAMES:
            for other in NAMES:
                under = issubclass(getattr(errors, one), getattr(errors, other))
                self.assertEqual(under, one == other, (one, other))

    def test_each_is_raised_and_taken(self):
        for name in NAMES:
            for taken in (getattr(errors, name), errors.InkError, ValueError):
                with self.subTest(name=name), self.assertRaises(taken):
                    raise getattr(errors, name)("words")


if __name__ == "__main__":
    unittest.main()
