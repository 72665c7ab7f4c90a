"""Lines of deeds, done at one desk."""

from inkloom.desk import Desk
from inkloom.errors import BadDeed, NoNode, NoNote, NoPlace
from inkloom.notes import read


def cursors_told(cursors):
    return " ".join([f"{anchor},{head}" for anchor, head, goal in cursors])


def answer_of(desk, deed):
    told = desk.deed(deed)
    if deed[0] in ("mark", "span"):
        return str(told)
    if deed[0] in ("step", "spread", "only"):
        return cursors_told(desk.cursors())
    return str(desk.now())


def answer(desk, line):
    try:
        return answer_of(desk, read(line))
    except NoPlace:
        return "no place"
    except NoNode:
        return "no node"
    except (BadDeed, NoNote):
        return "no deed"


def play(text, lines):
    desk = Desk(text)
    return [answer(desk, line) for line in lines]
