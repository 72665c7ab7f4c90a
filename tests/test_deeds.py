import unittest

from inkloom.deeds import need_deed
from inkloom.errors import BadDeed

from samples import STEP_WORDS, Odd, no_sides, no_texts, no_wholes, other_kinds

ERASE_WORDS = ["left", "right", "back", "on", "home", "end"]
GOOD = [("enter", ""), ("enter", "a\n\"\\"), ("paste", ("",)), ("paste", ("a", "b\n", "a")), ("paste", ("x",) * 40),
        ("spread", 0), ("spread", 999999999), ("only",), ("mark", "left"), ("mark", "right"), ("span", True),
        ("span", False), ("undo",), ("redo",), ("go", 0), ("go", 7), ("go", 999999999)]
GOOD += [("erase", word) for word in ERASE_WORDS]
GOOD += [("step", word, hold) for word in STEP_WORDS for hold in (True, False)]


def no_truths():
    kinds = [thing for thing in other_kinds() if thing is not True and thing is not False]
    return kinds + [0, 1, "", "True", "grows", (), [], (True,), [False]]


def bad_words():
    words = ["", "Left", "lef", "lefts", " left", "left ", "\t", "hold", "enter"]
    return other_kinds() + words + [0, 1, (), ("left",), [], ["left"]]


def bad_texts():
    """Things that are no tuple of 1 to 40 texts."""
    bad = other_kinds() + [(), "", "a", ["a"], [], 1, ("a",) * 41, (("a",),), (["a"],)]
    for text in no_texts():
        bad += [(text,), ("a", text), (text, "a")]
    return bad


class NeedDeedTest(unittest.TestCase):
    def assert_none(self, thing):
        with self.assertRaises(BadDeed):
            need_deed(thing)

    def test_good_ones(self):
        for deed in GOOD:
            self.assertIsNone(need_deed(deed), deed)

    def test_whatever_is_none(self):
        for thing in other_kinds() + [0, "", "only", "undo", [], ["only"], ["enter", "a"], (), ("",), ((),), [Odd()]]:
            self.assert_none(thing)

    def test_other_words(self):
        for word in other_kinds() + ["", "Enter", "ENTER", "ente", "enters", " only", "hold", "type", "\t", 0, (), []]:
            for rest in ((), ("a",), (0,), (("a",),), (True,), ("left",), ("left", True)):
                self.assert_none((word,) + rest)

    def test_too_few_and_too_many_parts(self):
        for deed in GOOD:
            self.assert_none(deed[:-1])
            self.assert_none(deed + (None,))
            self.assert_none(deed + ("a",))
            self.assert_none(deed + (True,))
            self.assert_none(deed + (0,))
            self.assert_none(list(deed))

    def test_enter(self):
        for thing in no_texts():
            self.assert_none(("enter", thing))

    def test_paste(self):
        for thing in bad_texts():
            self.assert_none(("paste", thing))

    def test_erase(self):
        for word in bad_words() + ["up", "down", "top", "bottom"]:
            self.assert_none(("erase", word))

    def test_step(self):
        for word in bad_words():
            for hold in (True, False, None):
                self.assert_none(("step", word, hold))
        for hold in no_truths():
            for word in STEP_WORDS:
                self.assert_none(("step", word, hold))

    def test_spread_and_go(self):
        for word in ("spread", "go"):
            for thing in no_wholes() + [-1, -999999999, 1000000000, 10 ** 30]:
                self.assert_none((word, thing))

    def test_mark(self):
        for thing in no_sides():
            self.assert_none(("mark", thing))

    def test_span(self):
        for thing in no_truths():
            self.assert_none(("span", thing))

    def test_parts_of_another_word(self):
        for deed in [("enter", ("a",)), ("enter", 3), ("enter", True), ("paste", "a"), ("paste", 3), ("erase", "a"),
                     ("erase", ("left",)), ("erase", True), ("spread", "3"), ("spread", True), ("mark", "back"),
                     ("mark", 0), ("span", "left"), ("span", 1), ("go", "3"), ("go", True), ("step", "left"),
                     ("step", True, "left"), ("step", "left", "left"), ("only", True), ("undo", 1), ("redo", "")]:
            self.assert_none(deed)


if __name__ == "__main__":
    unittest.main()
