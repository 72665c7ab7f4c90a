"""What several tests draw from: things of all kinds, small parts, and slow and plain ways to the same answers."""

import copy
import itertools

GOOD_SIGNS = [chr(code) for code in range(32, 127) if code != 37] + ["\n"]

PUTS = [("put", "x"), ("put", "ya")]
CUTS = [("cut", "a"), ("cut", "ba")]
KEEPS = [("keep", 1), ("keep", 2)]
GOOD_PARTS = PUTS + CUTS + KEEPS
LOOSE_PARTS = GOOD_PARTS + [("put", ""), ("cut", ""), ("keep", 0)]

BAD_ORDERS = [
    [("keep", 1), ("keep", 1)],
    [("put", "a"), ("put", "b")],
    [("cut", "a"), ("cut", "b")],
    [("cut", "a"), ("put", "b")],
    [("keep", 1), ("cut", "a"), ("put", "b"), ("keep", 1)],
    [("put", "a"), ("cut", "b"), ("put", "c")],
    [("put", "a"), ("cut", "b"), ("keep", 1), ("keep", 2)],
]


class Odd:
    """A thing with which nothing can be done but to ask of what kind it is."""

    __hash__ = None

    def refuse(self, *others):
        raise AssertionError("an odd thing was used")

    __eq__ = __ne__ = __lt__ = __le__ = __gt__ = __ge__ = refuse
    __len__ = __iter__ = __bool__ = __getitem__ = __contains__ = __add__ = __radd__ = __index__ = __int__ = refuse


def other_kinds():
    """Things that are neither whole numbers, nor texts, nor lists, nor tuples."""
    looped = {}
    looped["self"] = looped
    return [None, True, False, 1.0, 0.5, float("nan"), 1j, b"", b"a", bytearray(b"a"), {}, {"keep": 1}, looped,
            set(), {"a"}, frozenset("a"), object(), Odd(), Odd, int, len, range(2), iter([]), ValueError("a")]


def no_texts():
    return other_kinds() + [0, 1, -1, 97, (), ("a",), [], ["a"], ["a", "b"], "\t", "a\t", "\ta", "a\tb", "a\n\tb\n"]


def no_wholes():
    return other_kinds() + ["", "0", "1", "a", "\t", (), (1,), [], [1]]


def no_sides():
    """Things that are neither "left" nor "right"."""
    words = ["", "Left", "LEFT", "lef", "left ", " right", "l", "leftright", "up", "\t"]
    return other_kinds() + words + [0, 1, (), ("left",), [], ["left"], [["right"]], {"left": "right"}]


def bad_parts():
    """Things that are no part of a change."""
    bad = [("keep", number) for number in no_wholes() + [0, -1, -2, -10 ** 30]]
    for word in ("cut", "put"):
        bad += [(word, text) for text in no_texts() + [""]]
    for word in ("", "Keep", "KEEP", "keeps", "kee", "keep ", "CUT", "puts", "add", "\t", 0, 1, (), [], ("keep",)):
        bad += [(word, 1), (word, "a")]
    for word in other_kinds():
        bad += [(word, 1), (word, "a")]
    bad += [(), ("keep",), ("cut",), ("put",), ("keep", 1, 1), ("keep", 1, None), ("cut", "a", "a"), ("put", "a", 1)]
    bad += [["keep", 1], ["cut", "a"], ["put", "a"], "keep", "ab", "a", "", 1, 0, [], [("keep", 1)], (("keep", 1),)]
    return bad + other_kinds()


def no_changes():
    looped = []
    looped.append(looped)
    bad = other_kinds() + [0, 1, -1, "", "a", "keep", (), ("keep", 1), (("keep", 1),), {("keep", 1): True}, looped]
    for part in bad_parts():
        bad.append([part])
        bad.append([("keep", 1), part])
        bad.append([part, ("keep", 1)])
        bad.append([("put", "a"), ("cut", "a"), part])
    return bad + copy.deepcopy(BAD_ORDERS)


def rows(parts, most):
    """All lists of at most so many of these parts."""
    for many in range(most + 1):
        for row in itertools.product(parts, repeat=many):
            yield list(row)


def size_of(part):
    return part[1] if part[0] == "keep" else len(part[1])


def neatened(parts):
    """Neat parts, by one small step after the other until no step is left."""
    parts = [part for part in parts if size_of(part) > 0]
    for place in range(len(parts) - 1):
        one, other = parts[place], parts[place + 1]
        if one[0] == other[0]:
            return neatened(parts[:place] + [(one[0], one[1] + other[1])] + parts[place + 2:])
        if one[0] == "cut" and other[0] == "put":
            return neatened(parts[:place] + [other, one] + parts[place + 2:])
    return parts


def is_neat(parts):
    words = [part[0] for part in parts]
    pairs = [("put", "put"), ("cut", "cut"), ("keep", "keep"), ("cut", "put")]
    return not any(pair in pairs for pair in zip(words, words[1:]))


def changes(most):
    """All changes of at most so many good parts."""
    return [row for row in rows(GOOD_PARTS, most) if is_neat(row)]


def behind(text, change):
    """The text behind a change, sign by sign; None where the change does not fit."""
    ahead = list(text)
    told = []
    for word, what in change:
        if word == "put":
            told.extend(what)
            continue
        signs = [None] * what if word == "keep" else list(what)
        for sign in signs:
            if not ahead or sign not in (None, ahead[0]):
                return None
            stood = ahead.pop(0)
            if word == "keep":
                told.append(stood)
    return None if ahead else "".join(told)


def texts(signs, most):
    for many in range(most + 1):
        for row in itertools.product(signs, repeat=many):
            yield "".join(row)


def changes_of(text, puts):
    """All changes of this text that put one of these texts, or nothing, into each gap."""
    told = []
    for row in itertools.product(["", *puts], repeat=len(text) + 1):
        for kept in itertools.product([True, False], repeat=len(text)):
            parts = [("put", row[0])]
            for place, sign in enumerate(text):
                parts += [("keep", 1) if kept[place] else ("cut", sign), ("put", row[place + 1])]
            change = neatened(parts)
            if change not in told:
                told.append(change)
    return told


def some_text(chance, most, signs="ab \n"):
    return "".join(chance.choice(signs) for number in range(chance.randrange(most + 1)))


def some_change(chance, text, signs="abxy \n", parts=4):
    """A change of this text with a few parts, by a random source that is handed in."""
    told = []
    place = 0
    for number in range(chance.randrange(parts + 1)):
        end = chance.randrange(place, len(text) + 1)
        told.append(("put", some_text(chance, 3, signs)) if chance.randrange(2) else ("put", ""))
        told.append(("keep", end - place) if chance.randrange(2) else ("cut", text[place:end]))
        place = end
    return neatened(told + [("keep", len(text) - place)])


def kept_places(change):
    """For each old sign its place behind the change, or None where it is cut."""
    told = []
    new = 0
    for word, what in change:
        if word == "put":
            new += len(what)
        elif word == "cut":
            told += [None] * len(what)
        else:
            told += range(new, new + what)
            new += what
    return told


def place_behind(change, place, side):
    """Where a place comes, sign by sign."""
    kept = kept_places(change)
    if side == "left":
        ahead = [new for new in kept[:place] if new is not None]
        return ahead[-1] + 1 if ahead else 0
    behind_it = [new for new in kept[place:] if new is not None]
    return behind_it[0] if behind_it else sum(size_of(part) for part in change if part[0] != "cut")


def least_pieces(height):
    """How few pieces a node of this height may have."""
    row = [0, 1]
    while len(row) <= height:
        row.append(1 + row[-1] + row[-2])
    return row[height]


def faults_of_node(node, stock):
    """What is wrong with a node, beside the stock; an empty list where nothing is."""
    if node is None:
        return []
    left, piece, right, height, size, ends = node
    begin, length, feeds = piece
    heights = [0 if side is None else side[3] for side in (left, right)]
    sides = [side for side in (left, right) if side is not None]
    told = {
        "height": height == 1 + max(heights),
        "level": abs(heights[0] - heights[1]) <= 1,
        "piece": length >= 1 and stock.read(begin, length).count("\n") == feeds,
        "size": size == length + sum(side[4] for side in sides),
        "ends": ends == feeds + sum(side[5] for side in sides),
        "tuples": isinstance(node, tuple) and isinstance(piece, tuple) and len(node) == 6 and len(piece) == 3,
    }
    faults = [name for name, good in told.items() if not good]
    return faults_of_node(left, stock) + faults + faults_of_node(right, stock)
