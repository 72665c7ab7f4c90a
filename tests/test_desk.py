import copy
import random
import unittest

from inkloom import errors
from inkloom.changes import done
from inkloom.desk import Desk
from inkloom.errors import BadChange, BadDeed, BadFit, BadText, NoNode, NoPlace

from samples import Odd, PlainDesk, behind, no_changes, no_texts, no_wholes, other_kinds, some_change, some_deed
from samples import some_text


def all_of(desk):
    return desk.text(), desk.cursors(), desk.now(), desk.marked(), desk.spanned()


def desk_behind(text, *deeds):
    desk = Desk(text)
    for deed in deeds:
        desk.deed(deed)
    return desk


class DeskCase(unittest.TestCase):
    def assert_refused(self, error, desk, deed):
        ahead = all_of(desk)
        with self.assertRaises(error, msg=deed):
            desk.deed(deed)
        self.assertEqual(all_of(desk), ahead)


class NewDeskTest(DeskCase):
    def test_a_new_one(self):
        for text in ("", "ab\n"):
            self.assertEqual(all_of(Desk(text)), (text, [(0, 0, None)], 0, [], []))

    def test_what_is_no_text(self):
        for thing in no_texts():
            with self.assertRaises(BadText):
                Desk(thing)

    def test_two_of_them(self):
        one, other = Desk("a"), Desk("a")
        one.deed(("enter", "x"))
        one.deed(("mark", "left"))
        self.assertEqual(all_of(other), ("a", [(0, 0, None)], 0, [], []))


class WhatIsToldTest(DeskCase):
    def test_changes(self):
        desk = Desk("ab")
        self.assertEqual(desk.deed(("enter", "x")), [("put", "x"), ("keep", 2)])
        self.assertEqual(desk.deed(("paste", ("y",))), [("keep", 1), ("put", "y"), ("keep", 2)])
        self.assertEqual(desk.deed(("erase", "right")), [("keep", 2), ("cut", "a"), ("keep", 1)])
        self.assertEqual(desk.deed(("undo",)), [("keep", 2), ("put", "a"), ("keep", 1)])
        self.assertEqual(desk.deed(("redo",)), [("keep", 2), ("cut", "a"), ("keep", 1)])
        self.assertEqual(desk.deed(("go", 0)), [("put", "a"), ("cut", "xy"), ("keep", 1)])
        self.assertEqual(desk.deed(("go", 0)), [("keep", 2)])
        self.assertEqual(desk.deed(("enter", "")), [("keep", 2)])

    def test_numbers_and_none(self):
        desk = Desk("ab")
        self.assertEqual([desk.deed(("mark", "left")), desk.deed(("mark", "right"))], [0, 1])
        self.assertEqual([desk.deed(("span", True)), desk.deed(("span", False))], [0, 1])
        for deed in (("step", "right", True), ("spread", 2), ("only",)):
            self.assertIsNone(desk.deed(deed))

    def test_marks_and_spans_of_the_first_cursor(self):
        desk = desk_behind("abcd", ("step", "right", False), ("step", "on", True), ("spread", 0),
                           ("step", "right", True))
        self.assertEqual(desk.cursors(), [(0, 1, None), (1, 4, None)])
        desk = desk_behind("abcd", ("step", "bottom", False), ("step", "left", True), ("step", "left", True))
        self.assertEqual(desk.cursors(), [(4, 2, None)])
        desk.deed(("mark", "left"))
        desk.deed(("span", False))
        self.assertEqual((desk.marked(), desk.spanned()), ([(0, 2)], [(0, 2, 4)]))

    def test_what_changes_the_text_moves_marks_and_spans(self):
        desk = desk_behind("abcd", ("step", "right", True), ("mark", "left"), ("mark", "right"), ("span", True),
                           ("span", False), ("step", "right", False), ("enter", "xy"))
        self.assertEqual((desk.text(), desk.marked()), ("axybcd", [(0, 1), (1, 3)]))
        self.assertEqual(desk.spanned(), [(0, 0, 3), (1, 0, 1)])
        desk.deed(("undo",))
        self.assertEqual((desk.marked(), desk.spanned()), ([(0, 1), (1, 1)], [(0, 0, 1), (1, 0, 1)]))
        desk.deed(("redo",))
        self.assertEqual((desk.marked(), desk.spanned()), ([(0, 1), (1, 3)], [(0, 0, 3), (1, 0, 1)]))
        desk.foreign([("cut", "ax"), ("keep", 4)])
        self.assertEqual((desk.marked(), desk.spanned()), ([(0, 0), (1, 1)], [(0, 0, 1), (1, 0, 0)]))

    def test_spread_and_only(self):
        desk = desk_behind("abcd", ("step", "end", True), ("spread", 4))
        self.assertEqual(desk.cursors(), [(0, 4, None)])
        desk = desk_behind("ab\ncd", ("spread", 5), ("spread", 3), ("step", "up", False))
        self.assertEqual(desk.cursors(), [(0, 0, None), (2, 2, 2)])
        desk = desk_behind("ab\ncd", ("step", "down", False), ("spread", 5))
        self.assertEqual(desk.cursors(), [(3, 3, 0), (5, 5, None)])
        desk.deed(("spread", 5))
        self.assertEqual(desk.cursors(), [(3, 3, 0), (5, 5, None)])
        desk.deed(("only",))
        self.assertEqual(desk.cursors(), [(3, 3, 0)])

    def test_a_new_cursor_stands_behind_the_others_of_the_list(self):
        desk = desk_behind("abcd", ("step", "bottom", False), ("step", "left", True), ("step", "left", True),
                           ("spread", 2))
        self.assertEqual(desk.cursors(), [(4, 2, None)])

    def test_cursors_are_carried(self):
        desk = desk_behind("ab\nab", ("spread", 5), ("enter", "x"), ("step", "up", False))
        self.assertEqual(desk.cursors(), [(0, 0, 1), (3, 3, 3)])
        desk.deed(("undo",))
        self.assertEqual(desk.cursors(), [(0, 0, None), (2, 2, None)])
        desk = desk_behind("ab\nab", ("step", "down", False))
        desk.deed(("go", 0))
        self.assertEqual(desk.cursors(), [(3, 3, None)])
        desk = desk_behind("ab\nab", ("step", "down", False))
        desk.foreign([("cut", "ab"), ("keep", 3)])
        self.assertEqual(desk.cursors(), [(1, 1, None)])


class NodesTest(DeskCase):
    """Which enter or paste is more of the deed ahead."""

    def nodes(self, desk, *deeds):
        told = []
        for deed in deeds:
            desk.deed(deed)
            told.append(desk.now())
        return told

    def test_enters_and_pastes_are_one(self):
        desk = Desk("ab")
        deeds = [("enter", "x"), ("enter", "y"), ("paste", ("z",)), ("enter", "\n"), ("paste", ("w",))]
        self.assertEqual(self.nodes(desk, *deeds), [1] * 5)
        self.assertEqual(desk.deed(("undo",)), [("cut", "xyz\nw"), ("keep", 2)])

    def test_other_deeds_end_that(self):
        for deed in (("step", "left", False), ("step", "right", True), ("spread", 1), ("only",), ("mark", "left"),
                     ("span", True), ("go", 1)):
            desk = Desk("ab")
            self.assertEqual(self.nodes(desk, ("enter", "x"), deed, ("enter", "y"), ("enter", "z")), [1, 1, 2, 2], deed)

    def test_an_erase_is_a_deed_of_its_own(self):
        desk = Desk("ab")
        deeds = [("enter", "x"), ("erase", "left"), ("erase", "right"), ("enter", "y"), ("enter", "z")]
        self.assertEqual(self.nodes(desk, *deeds), [1, 2, 3, 4, 4])

    def test_a_still_erase_ends_that(self):
        desk = Desk("ab")
        deeds = [("enter", "x"), ("step", "top", False), ("enter", "y"), ("step", "top", False), ("erase", "left"),
                 ("enter", "z"), ("erase", "on"), ("erase", "on"), ("enter", "w")]
        self.assertEqual(self.nodes(desk, *deeds), [1, 1, 2, 2, 2, 3, 4, 4, 5])

    def test_a_still_enter_or_paste_ends_that(self):
        for still in (("enter", ""), ("paste", ("",))):
            desk = Desk("ab")
            self.assertEqual(self.nodes(desk, ("enter", "x"), still, ("enter", "y"), ("enter", "z")), [1, 1, 2, 2])
            desk = Desk("ab")
            self.assertEqual(self.nodes(desk, still, ("enter", "x"), ("enter", "y")), [0, 1, 1])

    def test_undo_and_redo_end_that(self):
        desk = Desk("ab")
        deeds = [("enter", "x"), ("undo",), ("redo",), ("enter", "y"), ("undo",), ("enter", "z")]
        self.assertEqual(self.nodes(desk, *deeds), [1, 0, 1, 2, 1, 3])

    def test_a_foreign_change_ends_that(self):
        for change in ([("keep", 3), ("put", "f")], [("keep", 3)]):
            desk = desk_behind("ab", ("enter", "x"))
            self.assertIsNone(desk.foreign(change))
            self.assertEqual(self.nodes(desk, ("enter", "y"), ("enter", "z")), [2, 2])

    def test_a_refused_deed_ends_nothing(self):
        desk = desk_behind("ab", ("enter", "x"))
        for error, deed in [(BadDeed, None), (BadDeed, ("enter", "\t")), (BadDeed, ("paste", ("a", "b"))),
                            (NoNode, ("redo",)), (NoNode, ("go", 2)), (NoPlace, ("spread", 4)),
                            (BadDeed, ("step", "on", 1)), (BadDeed, ("erase", "up"))]:
            self.assert_refused(error, desk, deed)
        for change in (None, [("keep", 4)], [("cut", "y"), ("keep", 2)]):
            with self.assertRaises((BadChange, BadFit)):
                desk.foreign(change)
        self.assertEqual(self.nodes(desk, ("enter", "y"), ("enter", "z")), [1, 1])

    def test_a_refused_deed_begins_nothing(self):
        desk = desk_behind("ab", ("enter", "x"), ("step", "left", False))
        self.assert_refused(BadDeed, desk, ("paste", ("a", "b")))
        self.assertEqual(self.nodes(desk, ("enter", "y")), [2])

    def test_a_text_that_is_alike_makes_a_node(self):
        desk = desk_behind("ab", ("step", "right", True))
        self.assertEqual(self.nodes(desk, ("enter", "a")), [1])
        self.assertEqual(desk.text(), "ab")

    def test_enters_over_what_was_entered(self):
        desk = desk_behind("ab", ("enter", "xy"), ("step", "left", True), ("enter", "z"), ("enter", "w"))
        self.assertEqual((desk.text(), desk.now()), ("xzwab", 2))
        self.assertEqual(desk.deed(("undo",)), [("keep", 1), ("put", "y"), ("cut", "zw"), ("keep", 2)])


class ManyCursorsTest(DeskCase):
    def test_forty_and_more(self):
        desk = Desk("ab" * 45)
        for number in range(1, 40):
            desk.deed(("spread", 2 * number))
        self.assertEqual(len(desk.cursors()), 40)
        self.assert_refused(BadDeed, desk, ("spread", 81))
        self.assert_refused(NoPlace, desk, ("spread", 91))
        # One that joins another is let.
        desk.deed(("spread", 0))
        self.assertEqual(len(desk.cursors()), 40)
        desk.deed(("enter", "x"))
        self.assertEqual(desk.text(), "xab" * 40 + "ab" * 5)
        desk.deed(("paste", tuple("y" * (number % 3) for number in range(40))))
        self.assertEqual(desk.now(), 1)
        self.assert_refused(BadDeed, desk, ("paste", ("y",) * 39))
        desk.deed(("erase", "left"))
        desk.deed(("undo",))
        desk.deed(("go", 0))
        self.assertEqual((desk.text(), len(desk.cursors())), ("ab" * 45, 40))


class RefusalsTest(DeskCase):
    def test_no_deeds(self):
        desk = desk_behind("ab", ("enter", "x"), ("mark", "left"))
        for deed in other_kinds() + [(), [], "undo", ["undo"], ("undo", 1), ("enter",), ("enter", "\t"), ("paste", ()),
                                     ("paste", ["a"]), ("step", "left"), ("step", "left", 1), ("spread", -1),
                                     ("spread", 10 ** 9), ("spread", True), ("mark", "up"), ("span", 0), ("go", -1),
                                     ("go", 10 ** 9), ("go", True), ("erase", "top"), (Odd(),), ("hold", "left")]:
            self.assert_refused(BadDeed, desk, deed)

    def test_no_nodes(self):
        desk = Desk("ab")
        for deed in (("undo",), ("redo",), ("go", 1), ("go", 999999999)):
            self.assert_refused(NoNode, desk, deed)

    def test_no_place(self):
        desk = Desk("ab")
        for place in (3, 4, 999999999):
            self.assert_refused(NoPlace, desk, ("spread", place))

    def test_foreign(self):
        desk = desk_behind("ab", ("enter", "x"), ("mark", "left"), ("span", True))
        ahead = all_of(desk)
        for thing in no_changes():
            with self.assertRaises(BadChange):
                desk.foreign(thing)
        for change in ([], [("keep", 2)], [("keep", 4)], [("cut", "y"), ("keep", 2)], [("put", "z"), ("cut", "xaa")]):
            with self.assertRaises(BadFit):
                desk.foreign(change)
        with self.assertRaises(BadChange):
            desk.foreign([("keep", 9), ("keep", 0)])
        self.assertEqual(all_of(desk), ahead)
        self.assertEqual(desk.deed(("undo",)), [("cut", "x"), ("keep", 2)])


class OwnTest(DeskCase):
    def test_what_is_told_is_the_askers_own(self):
        desk = desk_behind("ab", ("mark", "left"), ("span", True))
        told = desk.deed(("enter", "x"))
        told.clear()
        desk.cursors().clear()
        desk.marked().clear()
        desk.spanned().clear()
        self.assertEqual(all_of(desk), ("xab", [(1, 1, None)], 1, [(0, 0)], [(0, 0, 1)]))
        told = all_of(desk)
        kept = copy.deepcopy(told)
        change = desk.deed(("undo",))
        kept_change = list(change)
        desk.deed(("redo",)).clear()
        desk.deed(("erase", "left")).clear()
        desk.deed(("go", 1)).clear()
        self.assertEqual((told, change), (kept, kept_change))
        self.assertEqual(desk.deed(("undo",)), kept_change)

    def test_foreign_changes_are_not_kept(self):
        desk = desk_behind("ab", ("enter", "x"))
        change = [("keep", 3), ("put", "y")]
        kept = list(change)
        desk.foreign(change)
        self.assertEqual(change, kept)
        change.clear()
        self.assertEqual(desk.text(), "xaby")
        self.assertEqual(desk.deed(("undo",)), [("cut", "x"), ("keep", 3)])


class RowsTest(DeskCase):
    def test_rows_of_deeds_beside_a_plain_text(self):
        for seed in range(60):
            chance = random.Random(seed)
            text = some_text(chance, 14)
            desk, plain = Desk(text), PlainDesk(text)
            for number in range(70):
                self.one_deed(chance, desk, plain)
                self.assertEqual(all_of(desk), plain.told())
            for node in range(len(plain.history.texts)):
                self.assertEqual(desk.deed(("go", node)), plain.deed(("go", node)))
                self.assertEqual(all_of(desk), plain.told())

    def one_deed(self, chance, desk, plain):
        if not chance.randrange(12):
            change = some_change(chance, plain.text)
            self.assertIsNone(desk.foreign(change))
            plain.foreign(change)
            return
        deed = some_deed(chance, len(plain.text), len(plain.history.texts), len(plain.cursors))
        ahead = plain.text
        told = plain.deed(deed)
        if isinstance(told, str):
            self.assert_refused(getattr(errors, told), desk, deed)
            return
        self.assertEqual(desk.deed(deed), told, deed)
        if isinstance(told, list):
            self.assertEqual(done(ahead, told), desk.text())
            self.assertEqual(behind(ahead, told), plain.text)

    def test_places_of_other_kinds(self):
        desk = Desk("ab")
        for thing in no_wholes():
            self.assert_refused(BadDeed, desk, ("spread", thing))
            self.assert_refused(BadDeed, desk, ("go", thing))


if __name__ == "__main__":
    unittest.main()
