"""One change and then another as one change."""

from inkloom.changes import Walk, neat, part_size, sizes
from inkloom.errors import BadFit


def cut_behind(given, text):
    if given[0] == "keep":
        return [("cut", text)]
    if given[1] != text:
        raise BadFit("what the first change puts is cut otherwise")
    # What is put and cut again leaves no trace.
    return []


def parts_behind(walk, part):
    parts = []
    place = 0
    while place < part_size(part):
        if walk.word() == "cut":
            parts.append(walk.take(walk.left()))
            continue
        size = min(walk.left(), part_size(part) - place)
        given = walk.take(size)
        if part[0] == "keep":
            parts.append(given)
        else:
            parts.extend(cut_behind(given, part[1][place:place + size]))
        place = place + size
    return parts


def then(one, other):
    if sizes(one)[1] != sizes(other)[0]:
        raise BadFit("the other change is over another number of signs than the first one gives")
    walk = Walk(one)
    parts = []
    for part in other:
        if part[0] == "put":
            parts.append(part)
        else:
            parts.extend(parts_behind(walk, part))
    # All that the first one gives is gone through: what is left of it are cuts.
    while walk.word() != "":
        parts.append(walk.take(walk.left()))
    return neat(parts)
