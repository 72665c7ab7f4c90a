"""Every name of the interface is there, with its arguments."""

import importlib
import inspect
import unittest

from inkloom.papers import paper_of
from inkloom.stock import Stock

FUNCTIONS = {
    "signs": ["is_whole(thing)", "is_text(thing)", "need_text(thing)"],
    "changes": ["need_change(change)", "sizes(change)", "neat(parts)", "done(text, change)", "back(change)",
                "swapped(text, swaps)"],
    "joining": ["then(one, other)"],
    "passing": ["passed(one, other)"],
    "moving": ["moved(change, place, side)"],
    "nodes": ["height_of(node)", "size_of(node)", "ends_of(node)", "joined(left, piece, right)", "met(left, right)",
              "parted(node, place, stock)", "pieces_of(node)"],
    "papers": ["paper_of(text)"],
    "cursors": ["need_cursors(size, cursors)", "settled(cursors)", "carried(change, cursors)"],
    "steps": ["stepped(paper, cursor, word, hold)", "all_stepped(paper, cursors, word, hold)"],
    "entering": ["entered(paper, cursors, texts)", "erased(paper, cursors, word)", "taken(paper, cursors)"],
    "deeds": ["need_deed(deed)"],
    "notes": ["shown(deed)", "read(line)"],
    "playing": ["play(text, lines)"],
}

CLASSES = {
    "stock.Stock()": ["put(text)", "read(begin, size)", "many()"],
    "papers.Paper(stock, node)": ["size()", "lines()", "text()", "part(begin, end)", "changed(change)",
                                  "line_at(place)", "place_at(line, column)", "line_size(line)", "pieces()",
                                  "height()"],
    "marks.Marks(size)": ["add(place, side)", "drop(number)", "place(number)", "side(number)", "numbers()", "size()",
                          "within(begin, end)", "changed(change)"],
    "spans.Spans(size)": ["add(begin, end, grows)", "told(number)", "at(place)", "bounds()", "drop(number)",
                          "numbers()", "size()", "changed(change)"],
    "history.History(size)": ["now()", "many()", "parent(node)", "children(node)", "size(node)", "do(change)",
                              "more(change)", "foreign(change)", "undo()", "redo()", "go(node)", "way(one, other)"],
    "server.Server(text, hands)": ["text()", "many()", "change(number)", "came(letter)"],
    "hand.Hand(number, text)": ["text()", "seen()", "flight()", "waiting()", "do(change)", "came(letter)", "nudge()"],
    "desk.Desk(text)": ["text()", "cursors()", "now()", "marked()", "spanned()", "deed(deed)", "foreign(change)"],
    "room.Room(text, hands)": ["text(hand)", "cursors(hand)", "server_text()", "letters()", "rests()",
                               "deed(hand, deed)", "hand_over(place)", "twice(place)", "lose(place)", "meet()"],
}


def told(thing, name, skipped=0):
    arguments = list(inspect.signature(thing).parameters)[skipped:]
    return name + "(" + ", ".join(arguments) + ")"


class InterfaceTest(unittest.TestCase):
    def test_functions(self):
        for file, rows in FUNCTIONS.items():
            module = importlib.import_module("inkloom." + file)
            for row in rows:
                name = row.partition("(")[0]
                self.assertEqual(told(getattr(module, name), name), row)

    def test_classes(self):
        for path, rows in CLASSES.items():
            file, dot, row = path.partition(".")
            name = row.partition("(")[0]
            one = getattr(importlib.import_module("inkloom." + file), name)
            self.assertEqual(told(one, name), row)
            for row in rows:
                name = row.partition("(")[0]
                self.assertEqual(told(getattr(one, name), name, 1), row)

    def test_fields_of_a_paper(self):
        paper = paper_of("ab")
        self.assertIsInstance(paper.stock, Stock)
        self.assertEqual(paper.node, (None, (0, 2, 0), None, 1, 2, 0))


if __name__ == "__main__":
    unittest.main()
