"""A desk: one hand's editor."""

from inkloom.changes import keeps_all
from inkloom.cursors import MOST_CURSORS, begin_of, carried, end_of, settled
from inkloom.deeds import need_deed
from inkloom.entering import entered, erased
from inkloom.errors import BadDeed, NoPlace
from inkloom.history import History
from inkloom.marks import Marks
from inkloom.papers import need_fit, paper_of
from inkloom.spans import Spans
from inkloom.steps import all_stepped


class Desk:
    def __init__(self, text):
        self.paper = paper_of(text)
        self.marks = Marks(self.paper.size())
        self.spans = Spans(self.paper.size())
        self.history = History(self.paper.size())
        self.carets = [(0, 0, None)]
        # Whether the next enter or paste is more of the deed ahead.
        self.goes_on = False

    def text(self):
        return self.paper.text()

    def cursors(self):
        return list(self.carets)

    def now(self):
        return self.history.now()

    def marked(self):
        return [(number, self.marks.place(number)) for number in self.marks.numbers()]

    def spanned(self):
        told = [(number, self.spans.told(number)) for number in self.spans.numbers()]
        return [(number, span[0], span[1]) for number, span in told]

    def deed(self, deed):
        need_deed(deed)
        if deed[0] in ("enter", "paste"):
            return self.enter(deed)
        if deed[0] == "erase":
            told = self.erase(deed[1])
        elif deed[0] in ("undo", "redo", "go"):
            told = self.lead(deed)
        elif deed[0] in ("mark", "span"):
            told = self.note(deed)
        else:
            self.carets = self.cursors_behind(deed)
            told = None
        # Only what was done ends a row of enters: what is refused does not come here.
        self.goes_on = False
        return told

    def turn(self, change, cursors):
        self.paper = self.paper.changed(change)
        self.marks.changed(change)
        self.spans.changed(change)
        self.carets = cursors

    def enter(self, deed):
        texts = list(deed[1]) if deed[0] == "paste" else [deed[1] for cursor in self.carets]
        told = entered(self.paper, self.carets, texts)
        still = keeps_all(told[0])
        if self.goes_on and not still:
            self.history.more(told[0])
        elif not still:
            self.history.do(told[0])
        self.turn(told[0], told[1])
        self.goes_on = not still
        return told[0]

    def erase(self, word):
        told = erased(self.paper, self.carets, word)
        if not keeps_all(told[0]):
            self.history.do(told[0])
        self.turn(told[0], told[1])
        return told[0]

    def lead(self, deed):
        if deed[0] == "undo":
            change = self.history.undo()
        elif deed[0] == "redo":
            change = self.history.redo()
        else:
            change = self.history.go(deed[1])
        self.turn(change, carried(change, self.carets))
        return change

    def note(self, deed):
        first = self.carets[0]
        if deed[0] == "mark":
            return self.marks.add(first[1], deed[1])
        return self.spans.add(begin_of(first), end_of(first), deed[1])

    def cursors_behind(self, deed):
        if deed[0] == "step":
            return all_stepped(self.paper, self.carets, deed[1], deed[2])
        if deed[0] == "only":
            return self.carets[:1]
        if deed[1] > self.paper.size():
            raise NoPlace("the text has no such place")
        cursors = settled(self.carets + [(deed[1], deed[1], None)])
        if len(cursors) > MOST_CURSORS:
            raise BadDeed("there are 40 cursors at most")
        return cursors

    def foreign(self, change):
        need_fit(self.paper, change)
        self.history.foreign(change)
        self.turn(change, carried(change, self.carets))
        self.goes_on = False
