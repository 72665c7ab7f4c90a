import random
import unittest

from inkloom.deeds import need_deed
from inkloom.errors import BadDeed, NoNote
from inkloom.notes import read, shown

from samples import GOOD_SIGNS, STEP_WORDS, Odd, no_texts, other_kinds, some_deed, texts

LINES = {
    'enter ""': ("enter", ""),
    'enter "a b"': ("enter", "a b"),
    'enter "  "': ("enter", "  "),
    'enter "\\""': ("enter", '"'),
    'enter "\\\\"': ("enter", "\\"),
    'enter "\\n"': ("enter", "\n"),
    'enter "\\\\n"': ("enter", "\\n"),
    'enter "\\\\\\""': ("enter", '\\"'),
    'enter "a\\nb\\\\c\\"d"': ("enter", 'a\nb\\c"d'),
    'enter "\\" \\""': ("enter", '" "'),
    'enter "n"': ("enter", "n"),
    'paste ""': ("paste", ("",)),
    'paste "a" "b c" "" "\\n"': ("paste", ("a", "b c", "", "\n")),
    'paste "\\"" "\\\\"': ("paste", ('"', "\\")),
    'paste "\\" \\""': ("paste", ('" "',)),
    "erase left": ("erase", "left"),
    "erase back": ("erase", "back"),
    "step up": ("step", "up", False),
    "hold up": ("step", "up", True),
    "spread 0": ("spread", 0),
    "spread 7": ("spread", 7),
    "spread 10": ("spread", 10),
    "spread 999999999": ("spread", 999999999),
    "only": ("only",),
    "mark left": ("mark", "left"),
    "mark right": ("mark", "right"),
    "span grows": ("span", True),
    "span stays": ("span", False),
    "undo": ("undo",),
    "redo": ("redo",),
    "go 0": ("go", 0),
    "go 120": ("go", 120),
}

NO_LINES = [
    "", " ", "\n", "a", "enter", "enter ", "enter a", 'enter "', 'enter "a', 'enter a"', 'enter "a""b"', 'enter "a" ',
    ' enter "a"', 'enter  "a"', 'enter "a" "b"', 'enter "a"x', 'enter x"a"', 'enter "a"\n', 'Enter "a"', 'enter"a"',
    'enter "\\"', 'enter "\\a"', 'enter "\\t"', 'enter "\n"', 'enter "\t"', 'enter "a\tb"', 'enter "a\\', "enter 'a'",
    'enter "a\\n', 'enter "\\\\""', 'enter """', 'enter """"', "enter 1", 'enter\n"a"', 'enter\t"a"', 'enter \\"\\"',
    "paste", "paste ", "paste a", 'paste "a""b"', 'paste "a"  "b"', 'paste "a" "b" ', 'paste "a" b', 'paste  "a"',
    'paste "a", "b"', 'paste ("a")', 'paste "a" "', 'paste "a"\n"b"', 'paste "a" x "b"',
    "spread " + "1" * 5000, "go " + "0" * 5000, "paste " + " ".join(['"a"'] * 41),
    "erase", "erase ", "erase up", "erase top", "erase left ", "erase  left",
    "erase left right", "erase Left", 'erase "left"', "erase left\n", "step", "step ", "step hold", "step left ",
    "step  left", "step left True", "step left hold", "hold", "hold ", "hold sideways", "hold left right", "holds left",
    "spread", "spread ", "spread -1", "spread +1", "spread 01", "spread 00", "spread 1.0", "spread 1000000000",
    "spread 0999999999", "spread 9999999999", "spread 1 ", "spread  1", "spread 1 2", "spread a", "spread 1_0",
    "spread 0x1", "spread \u0661", "spread \u00b2", "spread 1\n", "only ", " only", "only 1", "ONLY", "only\n", "onl",
    "mark", "mark ", "mark up", "mark left right", "mark Left", "mark  left", "span", "span ", "span True", "span grow",
    "span stays ", "span grows stays", "span  grows", "undo ", "undo 1", "redo redo", "undo undo", "go", "go ", "go 00",
    "go -0", "go 1000000000", "go 1 1", "go one", "go 007", "0", "enter\"\"", "step\tleft", "none", "\t", "undo\nredo",
]


class ShownTest(unittest.TestCase):
    def test_each_kind(self):
        for line, deed in LINES.items():
            self.assertEqual(shown(deed), line)

    def test_all_words(self):
        for word in STEP_WORDS:
            self.assertEqual(shown(("step", word, False)), "step " + word)
            self.assertEqual(shown(("step", word, True)), "hold " + word)
        for word in ("left", "right", "back", "on", "home", "end"):
            self.assertEqual(shown(("erase", word)), "erase " + word)

    def test_forty_texts(self):
        self.assertEqual(shown(("paste", ("a",) * 40)), "paste" + ' "a"' * 40)

    def test_what_is_no_deed(self):
        for deed in other_kinds() + [(), [], "undo", ["undo"], ("undo", 1), ("enter",), ("enter", "\t"), ("paste", ()),
                                     ("paste", ["a"]), ("paste", ("a",) * 41), ("step", "left"), ("step", "left", 1),
                                     ("spread", -1), ("spread", 10 ** 9), ("spread", True), ("mark", "up"),
                                     ("span", "grows"), ("go", -1), ("go", 10 ** 9), ("erase", "top"), (Odd(),),
                                     ("hold", "left"), ("span", 1), ("enter", Odd())]:
            with self.assertRaises(BadDeed):
                shown(deed)
        for text in no_texts():
            with self.assertRaises(BadDeed):
                shown(("enter", text))
            with self.assertRaises(BadDeed):
                shown(("paste", ("a", text)))


class ReadTest(unittest.TestCase):
    def test_each_kind(self):
        for line, deed in LINES.items():
            told = read(line)
            self.assertEqual(told, deed)
            self.assertIsNone(need_deed(told))
            self.assertEqual(repr(told), repr(deed))

    def test_lines_that_are_none(self):
        for line in NO_LINES:
            with self.assertRaises(NoNote, msg=line):
                read(line)

    def test_lines_of_other_kinds(self):
        for thing in other_kinds() + [0, 1, (), ("undo",), [], ["undo"], ["only"], ("enter", "a")]:
            with self.assertRaises(NoNote):
                read(thing)

    def test_blanks_and_signs_too_many(self):
        for line in LINES:
            for place in range(len(line) + 1):
                for more in (" ", "\n", "\t", '"', "\\"):
                    other = line[:place] + more + line[place:]
                    try:
                        deed = read(other)
                    except NoNote:
                        continue
                    # Some are lines of another deed; none is a second way to write one.
                    self.assertEqual(shown(deed), other)
                    self.assertNotEqual(deed, LINES[line])

    def test_signs_too_few(self):
        for line in LINES:
            for place in range(len(line)):
                other = line[:place] + line[place + 1:]
                try:
                    self.assertEqual(shown(read(other)), other)
                except NoNote:
                    self.assertNotIn(other, LINES)


class ThereAndBackTest(unittest.TestCase):
    def test_small_texts(self):
        for text in texts('a"\\\n n', 4):
            self.assertEqual(read(shown(("enter", text))), ("enter", text))
            self.assertNotIn("\n", shown(("enter", text)))
        for one in texts('"\\ \n', 2):
            for other in texts('"\\ \n', 2):
                self.assertEqual(read(shown(("paste", (one, other)))), ("paste", (one, other)))

    def test_each_sign(self):
        for sign in GOOD_SIGNS:
            for text in (sign, sign + sign, "a" + sign, sign + "n"):
                self.assertEqual(read(shown(("enter", text))), ("enter", text))
        self.assertEqual(read(shown(("enter", "".join(GOOD_SIGNS)))), ("enter", "".join(GOOD_SIGNS)))

    def test_deeds_of_every_kind(self):
        chance = random.Random(21)
        for number in range(2000):
            deed = some_deed(chance, 30, 10, chance.randrange(1, 41))
            self.assertEqual(read(shown(deed)), deed)

    def test_numbers(self):
        for number in (0, 1, 9, 10, 99, 100, 123456789, 999999999):
            for word in ("spread", "go"):
                self.assertEqual(read(word + " " + str(number)), (word, number))

    def test_long_texts(self):
        text = 'ab "\\\n' * 20000
        self.assertEqual(read(shown(("enter", text))), ("enter", text))


if __name__ == "__main__":
    unittest.main()
