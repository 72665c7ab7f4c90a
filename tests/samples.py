"""What several tests draw from: things of all kinds, small parts, and slow and plain ways to the same answers."""

import itertools

GOOD_SIGNS = [chr(code) for code in range(32, 127) if code != 37] + ["\n"]

PUTS = [("put", "x"), ("put", "ya")]
CUTS = [("cut", "a"), ("cut", "ba")]
KEEPS = [("keep", 1), ("keep", 2)]
GOOD_PARTS = PUTS + CUTS + KEEPS
LOOSE_PARTS = GOOD_PARTS + [("put", ""), ("cut", ""), ("keep", 0)]


class Odd:
    """A thing with which nothing can be done but to ask of what kind it is."""

    __hash__ = None

    def refuse(self, *others):
        raise AssertionError("an odd thing was used")

    __eq__ = __ne__ = __lt__ = __le__ = __gt__ = __ge__ = refuse
    __len__ = __iter__ = __bool__ = __getitem__ = __contains__ = __add__ = __radd__ = __index__ = __int__ = refuse


def other_kinds():
    """Things that are neither whole numbers, nor texts, nor lists, nor tuples."""
    looped = {}
    looped["self"] = looped
    return [None, True, False, 1.0, 0.5, float("nan"), 1j, b"", b"a", bytearray(b"a"), {}, {"keep": 1}, looped,
            set(), {"a"}, frozenset("a"), object(), Odd(), Odd, int, len, range(2), iter([]), ValueError("a")]


def no_texts():
    return other_kinds() + [0, 1, -1, 97, (), ("a",), [], ["a"], ["a", "b"], "\t", "a\t", "\ta", "a\tb", "a\n\tb\n"]


def no_wholes():
    return other_kinds() + ["", "0", "1", "a", "\t", (), (1,), [], [1]]


def rows(parts, most):
    """All lists of at most so many of these parts."""
    for many in range(most + 1):
        for row in itertools.product(parts, repeat=many):
            yield list(row)


def size_of(part):
    return part[1] if part[0] == "keep" else len(part[1])


def neatened(parts):
    """Neat parts, by one small step after the other until no step is left."""
    parts = [part for part in parts if size_of(part) > 0]
    for place in range(len(parts) - 1):
        one, other = parts[place], parts[place + 1]
        if one[0] == other[0]:
            return neatened(parts[:place] + [(one[0], one[1] + other[1])] + parts[place + 2:])
        if one[0] == "cut" and other[0] == "put":
            return neatened(parts[:place] + [other, one] + parts[place + 2:])
    return parts


def is_neat(parts):
    words = [part[0] for part in parts]
    pairs = [("put", "put"), ("cut", "cut"), ("keep", "keep"), ("cut", "put")]
    return not any(pair in pairs for pair in zip(words, words[1:]))


def changes(most):
    """All changes of at most so many good parts."""
    return [row for row in rows(GOOD_PARTS, most) if is_neat(row)]


def behind(text, change):
    """The text behind a change, sign by sign; None where the change does not fit."""
    ahead = list(text)
    told = []
    for word, what in change:
        if word == "put":
            told.extend(what)
            continue
        signs = [None] * what if word == "keep" else list(what)
        for sign in signs:
            if not ahead or sign not in (None, ahead[0]):
                return None
            stood = ahead.pop(0)
            if word == "keep":
                told.append(stood)
    return None if ahead else "".join(told)


def texts(signs, most):
    for many in range(most + 1):
        for row in itertools.product(signs, repeat=many):
            yield "".join(row)
