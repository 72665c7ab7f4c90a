"""Texts entered at cursors, and signs erased there."""

from inkloom.changes import neat
from inkloom.cursors import begin_of, end_of, is_empty, need_cursors, settled
from inkloom.errors import BadDeed
from inkloom.signs import is_word, need_text
from inkloom.steps import step

ERASE_WORDS = ("left", "right", "back", "on", "home", "end")


def taken(paper, cursors):
    need_cursors(paper.size(), cursors)
    return [paper.part(begin_of(cursor), end_of(cursor)) for cursor in cursors]


def enter(paper, cursors, texts):
    # Built like the change that swapped tells, but without reading the whole paper.
    parts = []
    behind = []
    place = 0
    size = 0
    for cursor, text in zip(cursors, texts):
        begin = begin_of(cursor)
        end = end_of(cursor)
        parts.extend([("keep", begin - place), ("put", text), ("cut", paper.part(begin, end))])
        size = size + begin - place + len(text)
        behind.append((size, size, None))
        place = end
    parts.append(("keep", paper.size() - place))
    return (neat(parts), settled(behind))


def entered(paper, cursors, texts):
    need_cursors(paper.size(), cursors)
    if not isinstance(texts, list) or len(texts) != len(cursors):
        raise BadDeed("there is one text for each cursor, in a list")
    for text in texts:
        need_text(text)
    return enter(paper, cursors, texts)


def erased(paper, cursors, word):
    need_cursors(paper.size(), cursors)
    if not is_word(word, ERASE_WORDS):
        raise BadDeed("nothing is erased by this word")
    full = [step(paper, cursor, word, True) if is_empty(cursor) else cursor for cursor in cursors]
    one_by_one = settled(full)
    return enter(paper, one_by_one, ["" for cursor in one_by_one])
