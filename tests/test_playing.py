import random
import unittest

from inkloom.errors import BadText
from inkloom.notes import shown
from inkloom.playing import play

from samples import Odd, PlainDesk, no_texts, other_kinds, some_deed, some_text


class PlayTest(unittest.TestCase):
    def test_no_lines(self):
        self.assertEqual(play("ab", []), [])

    def test_nodes(self):
        lines = ['enter "x"', 'paste "y"', "erase left", "undo", "redo", "go 0", "go 2", 'enter ""', "erase left"]
        self.assertEqual(play("ab", lines), ["1", "1", "2", "1", "2", "0", "2", "2", "2"])

    def test_marks_and_spans(self):
        lines = ["mark left", "mark right", "span grows", "mark left", "span stays"]
        self.assertEqual(play("ab", lines), ["0", "1", "0", "2", "1"])

    def test_cursors(self):
        lines = ["step right", "hold right", "spread 0", "hold bottom", "spread 5", "only", "step left"]
        told = ["1,1", "1,2", "0,0 1,2", "0,5", "0,5", "0,5", "0,0"]
        self.assertEqual(play("ab\ncd", lines), told)

    def test_a_backward_cursor(self):
        self.assertEqual(play("ab", ["step bottom", "hold left", "hold left"]), ["2,2", "2,1", "2,0"])

    def test_what_is_refused(self):
        lines = ["spread 3", "undo", "redo", "go 1", 'paste "a" "b"', "nonsense", "go 01", ""]
        told = ["no place", "no node", "no node", "no node", "no deed", "no deed", "no deed", "no deed"]
        self.assertEqual(play("ab", lines), told)

    def test_more_than_forty_cursors(self):
        lines = [f"spread {place}" for place in range(1, 42)]
        told = play("a" * 50, lines)
        self.assertEqual(told[38], " ".join(f"{place},{place}" for place in range(40)))
        self.assertEqual(told[39:], ["no deed", "no deed"])

    def test_refused_lines_between_good_ones(self):
        good = ['enter "x"', 'enter "y"', "step left", "mark left", "hold on", 'enter "\\n"', "undo", "spread 1"]
        told = play("ab cd", good)
        for bad, answer in [("nonsense", "no deed"), ("spread 999", "no place"), ("go 99", "no node"),
                            (None, "no deed"), ('paste "a" "b" "c" "d"', "no deed")]:
            lines = [line for one in good for line in (one, bad)]
            self.assertEqual(play("ab cd", lines), [line for one in told for line in (one, answer)])

    def test_lines_of_any_kind(self):
        things = other_kinds() + [0, (), ("undo",), [], ["undo"], "\t", "\n", "undo\n", Odd()]
        self.assertEqual(play("ab", things), ["no deed"] * len(things))

    def test_what_is_no_text(self):
        for thing in no_texts():
            for lines in ([], ["undo"]):
                with self.assertRaises(BadText):
                    play(thing, lines)

    def test_what_is_handed_in_stays(self):
        lines = ['enter "x"', None, "undo"]
        told = play("ab", lines)
        self.assertEqual(lines, ['enter "x"', None, "undo"])
        told.clear()
        self.assertEqual(play("ab", lines), ["1", "no deed", "0"])

    def test_rows_of_deeds_beside_plain_ones(self):
        for seed in range(30):
            chance = random.Random(seed)
            text = some_text(chance, 10)
            plain, lines, answers = PlainDesk(text), [], []
            for number in range(60):
                deed = some_deed(chance, len(plain.text), len(plain.history.texts), len(plain.cursors))
                lines.append(shown(deed))
                answers.append(self.answer(plain, deed))
            self.assertEqual(play(text, lines), answers)

    def answer(self, plain, deed):
        told = plain.deed(deed)
        if isinstance(told, str):
            return {"NoPlace": "no place", "NoNode": "no node", "BadDeed": "no deed"}[told]
        if deed[0] in ("mark", "span"):
            return str(told)
        if deed[0] in ("step", "spread", "only"):
            return " ".join(f"{cursor[0]},{cursor[1]}" for cursor in plain.cursors)
        return str(plain.history.now)


if __name__ == "__main__":
    unittest.main()
