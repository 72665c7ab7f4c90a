"""What several tests draw from: things of all kinds, small parts, and slow and plain ways to the same answers."""

import copy
import itertools

from inkloom.changes import back, done
from inkloom.joining import then
from inkloom.passing import passed

GOOD_SIGNS = [chr(code) for code in range(32, 127) if code != 37] + ["\n"]

PUTS = [("put", "x"), ("put", "ya")]
CUTS = [("cut", "a"), ("cut", "ba")]
KEEPS = [("keep", 1), ("keep", 2)]
GOOD_PARTS = PUTS + CUTS + KEEPS
LOOSE_PARTS = GOOD_PARTS + [("put", ""), ("cut", ""), ("keep", 0)]

STEP_WORDS = ["left", "right", "home", "end", "top", "bottom", "back", "on", "up", "down"]

BAD_ORDERS = [
    [("keep", 1), ("keep", 1)],
    [("put", "a"), ("put", "b")],
    [("cut", "a"), ("cut", "b")],
    [("cut", "a"), ("put", "b")],
    [("keep", 1), ("cut", "a"), ("put", "b"), ("keep", 1)],
    [("put", "a"), ("cut", "b"), ("put", "c")],
    [("put", "a"), ("cut", "b"), ("keep", 1), ("keep", 2)],
]


class Odd:
    """A thing with which nothing can be done but to ask of what kind it is."""

    __hash__ = None

    def refuse(self, *others):
        raise AssertionError("an odd thing was used")

    __eq__ = __ne__ = __lt__ = __le__ = __gt__ = __ge__ = refuse
    __len__ = __iter__ = __bool__ = __getitem__ = __contains__ = __add__ = __radd__ = __index__ = __int__ = refuse


def other_kinds():
    """Things that are neither whole numbers, nor texts, nor lists, nor tuples."""
    looped = {}
    looped["self"] = looped
    return [None, True, False, 1.0, 0.5, float("nan"), 1j, b"", b"a", bytearray(b"a"), {}, {"keep": 1}, looped,
            set(), {"a"}, frozenset("a"), object(), Odd(), Odd, int, len, range(2), iter([]), ValueError("a")]


def no_texts():
    return other_kinds() + [0, 1, -1, 97, (), ("a",), [], ["a"], ["a", "b"], "\t", "a\t", "\ta", "a\tb", "a\n\tb\n"]


def no_wholes():
    return other_kinds() + ["", "0", "1", "a", "\t", (), (1,), [], [1]]


def no_sides():
    """Things that are neither "left" nor "right"."""
    words = ["", "Left", "LEFT", "lef", "left ", " right", "l", "leftright", "up", "\t"]
    return other_kinds() + words + [0, 1, (), ("left",), [], ["left"], [["right"]], {"left": "right"}]


def bad_parts():
    """Things that are no part of a change."""
    bad = [("keep", number) for number in no_wholes() + [0, -1, -2, -10 ** 30]]
    for word in ("cut", "put"):
        bad += [(word, text) for text in no_texts() + [""]]
    for word in ("", "Keep", "KEEP", "keeps", "kee", "keep ", "CUT", "puts", "add", "\t", 0, 1, (), [], ("keep",)):
        bad += [(word, 1), (word, "a")]
    for word in other_kinds():
        bad += [(word, 1), (word, "a")]
    bad += [(), ("keep",), ("cut",), ("put",), ("keep", 1, 1), ("keep", 1, None), ("cut", "a", "a"), ("put", "a", 1)]
    bad += [["keep", 1], ["cut", "a"], ["put", "a"], "keep", "ab", "a", "", 1, 0, [], [("keep", 1)], (("keep", 1),)]
    return bad + other_kinds()


def no_changes():
    looped = []
    looped.append(looped)
    bad = other_kinds() + [0, 1, -1, "", "a", "keep", (), ("keep", 1), (("keep", 1),), {("keep", 1): True}, looped]
    for part in bad_parts():
        bad.append([part])
        bad.append([("keep", 1), part])
        bad.append([part, ("keep", 1)])
        bad.append([("put", "a"), ("cut", "a"), part])
    return bad + copy.deepcopy(BAD_ORDERS)


def rows(parts, most):
    """All lists of at most so many of these parts."""
    for many in range(most + 1):
        for row in itertools.product(parts, repeat=many):
            yield list(row)


def size_of(part):
    return part[1] if part[0] == "keep" else len(part[1])


def neatened(parts):
    """Neat parts, by one small step after the other until no step is left."""
    parts = [part for part in parts if size_of(part) > 0]
    for place in range(len(parts) - 1):
        one, other = parts[place], parts[place + 1]
        if one[0] == other[0]:
            return neatened(parts[:place] + [(one[0], one[1] + other[1])] + parts[place + 2:])
        if one[0] == "cut" and other[0] == "put":
            return neatened(parts[:place] + [other, one] + parts[place + 2:])
    return parts


def is_neat(parts):
    words = [part[0] for part in parts]
    pairs = [("put", "put"), ("cut", "cut"), ("keep", "keep"), ("cut", "put")]
    return not any(pair in pairs for pair in zip(words, words[1:]))


def changes(most):
    """All changes of at most so many good parts."""
    return [row for row in rows(GOOD_PARTS, most) if is_neat(row)]


def behind(text, change):
    """The text behind a change, sign by sign; None where the change does not fit."""
    ahead = list(text)
    told = []
    for word, what in change:
        if word == "put":
            told.extend(what)
            continue
        signs = [None] * what if word == "keep" else list(what)
        for sign in signs:
            if not ahead or sign not in (None, ahead[0]):
                return None
            stood = ahead.pop(0)
            if word == "keep":
                told.append(stood)
    return None if ahead else "".join(told)


def texts(signs, most):
    for many in range(most + 1):
        for row in itertools.product(signs, repeat=many):
            yield "".join(row)


def changes_of(text, puts):
    """All changes of this text that put one of these texts, or nothing, into each gap."""
    told = []
    for row in itertools.product(["", *puts], repeat=len(text) + 1):
        for kept in itertools.product([True, False], repeat=len(text)):
            parts = [("put", row[0])]
            for place, sign in enumerate(text):
                parts += [("keep", 1) if kept[place] else ("cut", sign), ("put", row[place + 1])]
            change = neatened(parts)
            if change not in told:
                told.append(change)
    return told


def some_text(chance, most, signs="ab \n"):
    return "".join(chance.choice(signs) for number in range(chance.randrange(most + 1)))


def some_change(chance, text, signs="abxy \n", parts=4):
    """A change of this text with a few parts, by a random source that is handed in."""
    told = []
    place = 0
    for number in range(chance.randrange(parts + 1)):
        end = chance.randrange(place, len(text) + 1)
        told.append(("put", some_text(chance, 3, signs)) if chance.randrange(2) else ("put", ""))
        told.append(("keep", end - place) if chance.randrange(2) else ("cut", text[place:end]))
        place = end
    return neatened(told + [("keep", len(text) - place)])


def kept_places(change):
    """For each old sign its place behind the change, or None where it is cut."""
    told = []
    new = 0
    for word, what in change:
        if word == "put":
            new += len(what)
        elif word == "cut":
            told += [None] * len(what)
        else:
            told += range(new, new + what)
            new += what
    return told


def place_behind(change, place, side):
    """Where a place comes, sign by sign."""
    kept = kept_places(change)
    if side == "left":
        ahead = [new for new in kept[:place] if new is not None]
        return ahead[-1] + 1 if ahead else 0
    behind_it = [new for new in kept[place:] if new is not None]
    return behind_it[0] if behind_it else sum(size_of(part) for part in change if part[0] != "cut")


def least_pieces(height):
    """How few pieces a node of this height may have."""
    row = [0, 1]
    while len(row) <= height:
        row.append(1 + row[-1] + row[-2])
    return row[height]


def faults_of_node(node, stock):
    """What is wrong with a node, beside the stock; an empty list where nothing is."""
    if node is None:
        return []
    left, piece, right, height, size, ends = node
    begin, length, feeds = piece
    heights = [0 if side is None else side[3] for side in (left, right)]
    sides = [side for side in (left, right) if side is not None]
    told = {
        "height": height == 1 + max(heights),
        "level": abs(heights[0] - heights[1]) <= 1,
        "piece": length >= 1 and stock.read(begin, length).count("\n") == feeds,
        "size": size == length + sum(side[4] for side in sides),
        "ends": ends == feeds + sum(side[5] for side in sides),
        "tuples": isinstance(node, tuple) and isinstance(piece, tuple) and len(node) == 6 and len(piece) == 3,
    }
    faults = [name for name, good in told.items() if not good]
    return faults_of_node(left, stock) + faults + faults_of_node(right, stock)


def pair_meets(one, other):
    """Whether two cursors meet, whichever stands first."""
    one, other = sorted([sorted(one[:2]), sorted(other[:2])])
    if other[0] < one[1]:
        return True
    return other[0] == one[1] and (one[0] == one[1] or other[0] == other[1])


def settled_plainly(cursors):
    told = []
    for cursor in sorted(cursors, key=lambda cursor: sorted(cursor[:2])):
        if told and pair_meets(told[-1][0], cursor):
            (begin, end, goal), row = told.pop()
            told.append(((begin, max(end, *cursor[:2]), None), row + [cursor]))
        else:
            told.append(((min(cursor[:2]), max(cursor[:2]), None), [cursor]))
    settled_ones = []
    for (begin, end, goal), row in told:
        first = next(cursor for cursor in cursors if any(cursor is one for one in row))
        if len(row) == 1:
            settled_ones.append(row[0])
        elif first[1] < first[0]:
            settled_ones.append((end, begin, None))
        else:
            settled_ones.append((begin, end, None))
    return settled_ones


def is_word_sign(sign):
    return sign.isascii() and sign.isalnum()


def head_plainly(text, head, goal, word):
    """Where a head comes to by a word, and the goal behind, sign by sign in a plain text."""
    lines = text.split("\n")
    line, column = text[:head].count("\n"), head - (text[:head].rfind("\n") + 1)
    begins = [sum(len(one) + 1 for one in lines[:number]) for number in range(len(lines))]
    if word == "left":
        return max(head - 1, 0), None
    if word == "right":
        return min(head + 1, len(text)), None
    if word in ("top", "bottom"):
        return (0 if word == "top" else len(text)), None
    if word in ("home", "end"):
        return begins[line] + (0 if word == "home" else len(lines[line])), None
    if word in ("back", "on"):
        for wanted in (False, True):
            if word == "back":
                while head > 0 and is_word_sign(text[head - 1]) == wanted:
                    head -= 1
            else:
                while head < len(text) and is_word_sign(text[head]) == wanted:
                    head += 1
        return head, None
    goal = column if goal is None else goal
    other = line - 1 if word == "up" else line + 1
    if other < 0:
        return 0, goal
    if other == len(lines):
        return len(text), goal
    return begins[other] + min(goal, len(lines[other])), goal


def stepped_plainly(text, cursor, word, hold):
    anchor, head, goal = cursor
    if anchor != head and not hold and word in ("left", "right"):
        place = min(anchor, head) if word == "left" else max(anchor, head)
        return place, place, None
    head, goal = head_plainly(text, head, goal, word)
    return (anchor if hold else head), head, goal


def some_cursors(chance, size, most=8):
    """Settled cursors of a text of so many signs."""
    cursors = []
    for number in range(chance.randrange(1, most + 1)):
        anchor = chance.randrange(size + 1)
        head = min(size, max(0, anchor + chance.choice([0, 0, 0, 1, 2, 4, -1, -2, -4])))
        cursors.append((anchor, head, chance.choice([None, None, 0, 2])))
    return settled_plainly(cursors)


def entered_plainly(text, cursors, put):
    """The text behind texts entered at cursors, the change by which it came, and the cursors, by slices alone."""
    told, parts, places, ahead = "", [], [], 0
    for (anchor, head, goal), more in zip(cursors, put):
        begin, end = sorted((anchor, head))
        told += text[ahead:begin] + more
        parts += [("keep", begin - ahead), ("put", more), ("cut", text[begin:end])]
        places.append((len(told), len(told), None))
        ahead = end
    parts.append(("keep", len(text) - ahead))
    return told + text[ahead:], neatened(parts), settled_plainly(places)


def erased_plainly(text, cursors, word):
    cursors = [stepped_plainly(text, cursor, word, True) if cursor[0] == cursor[1] else cursor for cursor in cursors]
    cursors = settled_plainly(cursors)
    return entered_plainly(text, cursors, [""] * len(cursors))


def still(size):
    return [("keep", size)] if size else []


class PlainHistory:
    """The same tree, with the text of each node beside; plain and slow."""

    def __init__(self, text):
        self.texts = [text]
        self.parents = [None]
        self.changes = [None]
        self.gone = [None]
        self.now = 0

    def children(self, node):
        return [child for child, parent in enumerate(self.parents) if parent == node]

    def do(self, change):
        self.texts.append(done(self.texts[self.now], change))
        self.parents.append(self.now)
        self.changes.append(list(change))
        self.gone.append(None)
        self.gone[self.now] = len(self.texts) - 1
        self.now = len(self.texts) - 1

    def more(self, change):
        if self.now == 0 or self.children(self.now) or self.now != len(self.texts) - 1:
            return self.do(change)
        self.texts[self.now] = done(self.texts[self.now], change)
        self.changes[self.now] = then(self.changes[self.now], change)

    def way(self, one, other):
        ahead = {one: None}
        row = [one]
        for node in row:
            for near in [self.parents[node]] + self.children(node):
                if near is not None and near not in ahead:
                    ahead[near] = node
                    row.append(near)
        told = [other]
        while told[0] != one:
            told.insert(0, ahead[told[0]])
        return told

    def edge(self, one, other):
        return self.changes[other] if self.parents[other] == one else back(self.changes[one])

    def go(self, node):
        way = self.way(self.now, node)
        told = still(len(self.texts[self.now]))
        for one, other in zip(way, way[1:]):
            told = then(told, self.edge(one, other))
            if self.parents[other] == one:
                self.gone[one] = other
            else:
                self.gone[other] = one
        self.now = node
        return told

    def foreign(self, change, node=None, came_from=None):
        node = self.now if node is None else node
        for near in [self.parents[node]] + self.children(node):
            if near is None or near == came_from:
                continue
            goes, edge = passed(change, self.edge(node, near))
            self.foreign(goes, near, node)
            if self.parents[near] == node:
                self.changes[near] = edge
            else:
                self.changes[node] = back(edge)
        self.texts[node] = done(self.texts[node], change)


class PlainDesk:
    """A desk whose text is a str, with rows of places beside; refusals are told by the names of their classes."""

    def __init__(self, text):
        self.text = text
        self.cursors = [(0, 0, None)]
        self.marks = []
        self.spans = []
        self.history = PlainHistory(text)
        self.goes_on = False

    def told(self):
        """All that a desk tells of itself."""
        marked = [(number, place) for number, (place, side) in enumerate(self.marks)]
        spanned = [(number, min(begin, end), end) for number, (begin, end, grows) in enumerate(self.spans)]
        return self.text, self.cursors, self.history.now, marked, spanned

    def turn(self, text, change, cursors):
        self.text = text
        self.cursors = cursors
        self.marks = [(place_behind(change, place, side), side) for place, side in self.marks]
        self.spans = [(place_behind(change, begin, "left" if grows else "right"),
                       place_behind(change, end, "right" if grows else "left"), grows)
                      for begin, end, grows in self.spans]

    def carry(self, change):
        row = [[place_behind(change, place, "left") for place in cursor[:2]] + [None] for cursor in self.cursors]
        self.turn(behind(self.text, change), change, settled_plainly([tuple(cursor) for cursor in row]))

    def foreign(self, change):
        self.history.foreign(change)
        self.carry(change)
        self.goes_on = False

    def deed(self, deed):
        """What a desk tells of a deed, or the name of the refusal."""
        told = getattr(self, deed[0])(*deed[1:])
        if not isinstance(told, str):
            self.goes_on = deed[0] in ("enter", "paste") and any(part[0] != "keep" for part in told)
        return told

    def enter(self, text):
        return self.paste((text,) * len(self.cursors))

    def paste(self, texts):
        if len(texts) != len(self.cursors):
            return "BadDeed"
        return self.change_by(entered_plainly(self.text, self.cursors, texts), self.goes_on)

    def erase(self, word):
        return self.change_by(erased_plainly(self.text, self.cursors, word), False)

    def change_by(self, told, goes_on):
        text, change, cursors = told
        if change != still(len(self.text)):
            (self.history.more if goes_on else self.history.do)(change)
        self.turn(text, change, cursors)
        return change

    def step(self, word, hold):
        self.cursors = settled_plainly([stepped_plainly(self.text, cursor, word, hold) for cursor in self.cursors])

    def spread(self, place):
        if place > len(self.text):
            return "NoPlace"
        cursors = settled_plainly(self.cursors + [(place, place, None)])
        if len(cursors) > 40:
            return "BadDeed"
        self.cursors = cursors

    def only(self):
        self.cursors = self.cursors[:1]

    def mark(self, side):
        self.marks.append((self.cursors[0][1], side))
        return len(self.marks) - 1

    def span(self, grows):
        self.spans.append((*sorted(self.cursors[0][:2]), grows))
        return len(self.spans) - 1

    def go(self, node):
        if node is None or node >= len(self.history.texts):
            return "NoNode"
        change = self.history.go(node)
        self.carry(change)
        return change

    def undo(self):
        return self.go(self.history.parents[self.history.now])

    def redo(self):
        return self.go(self.history.gone[self.history.now])


def some_deed(chance, size, nodes, cursors):
    """A deed of any kind for a text of so many signs, a few of them to be refused."""
    kind = chance.choice(["enter"] * 6 + ["paste"] * 4 + ["erase"] * 4 + ["step"] * 6 + ["spread"] * 4
                         + ["only", "mark", "span", "undo", "undo", "redo", "redo", "go"])
    if kind == "enter":
        return (kind, some_text(chance, 2))
    if kind == "paste":
        many = cursors if chance.randrange(8) else chance.randrange(1, 5)
        return (kind, tuple(some_text(chance, 2) for number in range(many)))
    if kind == "erase":
        return (kind, chance.choice(["left", "right", "back", "on", "home", "end"]))
    if kind == "step":
        return (kind, chance.choice(STEP_WORDS), chance.choice([True, False]))
    if kind == "spread":
        return (kind, chance.randrange(size + 2))
    if kind == "mark":
        return (kind, chance.choice(["left", "right"]))
    if kind == "span":
        return (kind, chance.choice([True, False]))
    if kind == "go":
        return (kind, chance.randrange(nodes + 1))
    return (kind,)
