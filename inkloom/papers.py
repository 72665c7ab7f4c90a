"""Papers: texts in pieces of a stock, which never change."""

from inkloom.changes import part_size, sizes
from inkloom.errors import BadFit, NoPlace
from inkloom.nodes import ends_ahead_of, ends_of, height_of, joined, parted, pieces_of, place_of_end, sewn, size_of
from inkloom.signs import is_between, need_text
from inkloom.stock import Stock


def node_put(stock, text):
    # A change puts no empty text, but a paper may be made of one.
    if text == "":
        return None
    return joined(None, (stock.put(text), len(text), text.count("\n")), None)


def paper_of(text):
    need_text(text)
    stock = Stock()
    return Paper(stock, node_put(stock, text))


def need_fit(paper, change):
    if sizes(change)[0] != paper.size():
        raise BadFit("the change is over a text of another number of signs")
    place = 0
    for part in change:
        if part[0] == "cut" and paper.part(place, place + len(part[1])) != part[1]:
            raise BadFit("what is cut is not what stands there")
        if part[0] != "put":
            place = place + part_size(part)


def texts_of(stock, node):
    return [stock.read(piece[0], piece[1]) for piece in pieces_of(node)]


class Paper:
    def __init__(self, stock, node):
        self.stock = stock
        self.node = node

    def size(self):
        return size_of(self.node)

    def lines(self):
        return ends_of(self.node) + 1

    def text(self):
        return "".join(texts_of(self.stock, self.node))

    def pieces(self):
        return texts_of(self.stock, self.node)

    def height(self):
        return height_of(self.node)

    def part(self, begin, end):
        if not is_between(begin, 0, self.size()) or not is_between(end, begin, self.size()):
            raise NoPlace("a part leads from a place of the text to one that is no less")
        ahead = parted(self.node, end, self.stock)[0]
        return "".join(texts_of(self.stock, parted(ahead, begin, self.stock)[1]))

    def changed(self, change):
        # All is looked through first: a change that is refused puts nothing into the stock.
        need_fit(self, change)
        ahead = None
        rest = self.node
        for part in change:
            if part[0] == "put":
                ahead = sewn(ahead, node_put(self.stock, part[1]))
                continue
            sides = parted(rest, part_size(part), self.stock)
            rest = sides[1]
            if part[0] == "keep":
                ahead = sewn(ahead, sides[0])
        return Paper(self.stock, ahead)

    def line_begin(self, line):
        return 0 if line == 0 else place_of_end(self.node, line - 1, self.stock) + 1

    def line_size(self, line):
        if not is_between(line, 0, self.lines() - 1):
            raise NoPlace("the text has no such line")
        last = line == self.lines() - 1
        end = self.size() if last else place_of_end(self.node, line, self.stock)
        return end - self.line_begin(line)

    def line_at(self, place):
        if not is_between(place, 0, self.size()):
            raise NoPlace("the text has no such place")
        line = ends_ahead_of(self.node, place, self.stock)
        return (line, place - self.line_begin(line))

    def place_at(self, line, column):
        if not is_between(column, 0, self.line_size(line)):
            raise NoPlace("the line has no such column")
        return self.line_begin(line) + column
