"""Deeds as lines."""

from inkloom.deeds import is_deed, need_deed
from inkloom.errors import NoNote

FIGURES = "0123456789"
MOST_FIGURES = 9


def quoted(text):
    # The backslash first: those that the other two bring must not be doubled.
    return "\"" + text.replace("\\", "\\\\").replace("\"", "\\\"").replace("\n", "\\n") + "\""


def words_of(deed):
    word = deed[0]
    if word == "enter":
        return [word, quoted(deed[1])]
    if word == "paste":
        return [word] + [quoted(text) for text in deed[1]]
    if word == "step":
        return ["hold" if deed[2] else "step", deed[1]]
    if word == "span":
        return [word, "grows" if deed[1] else "stays"]
    return [word] + [str(part) for part in deed[1:]]


def shown(deed):
    need_deed(deed)
    return " ".join(words_of(deed))


def texts_of(row):
    texts = []
    signs = []
    inside = False
    escaped = False
    for sign in row:
        if escaped:
            signs.append("\n" if sign == "n" else sign)
            escaped = False
        elif sign == "\\":
            escaped = True
        elif sign != "\"":
            signs.append(sign)
        else:
            if inside:
                texts.append("".join(signs))
            signs = []
            inside = not inside
    return texts


def number_of(word):
    if len(word) == 0 or len(word) > MOST_FIGURES or word.strip(FIGURES) != "":
        return None
    return int(word)


def guess(line):
    parts = line.partition(" ")
    word = parts[0]
    rest = parts[2]
    if word == "enter":
        return (word,) + tuple(texts_of(rest))
    if word == "paste":
        return (word, tuple(texts_of(rest)))
    if word in ("step", "hold"):
        return ("step", rest, word == "hold")
    if word in ("spread", "go"):
        return (word, number_of(rest))
    if word == "span":
        return (word, rest == "grows")
    if word in ("only", "undo", "redo"):
        return (word,)
    return (word, rest)


def read(line):
    if not isinstance(line, str):
        raise NoNote("a line is a text")
    # A line is read loosely, then held beside the one way in which the deed is written.
    deed = guess(line)
    if not is_deed(deed) or shown(deed) != line:
        raise NoNote("this is no deed as it is written")
    return deed
