"""Cursors: what they are, and how they are settled and carried."""

from inkloom.errors import NoCursor
from inkloom.moving import Track
from inkloom.signs import is_between, is_whole

MOST_CURSORS = 40


def begin_of(cursor):
    return min(cursor[0], cursor[1])


def end_of(cursor):
    return max(cursor[0], cursor[1])


def is_empty(cursor):
    return cursor[0] == cursor[1]


def is_backward(cursor):
    return cursor[1] < cursor[0]


def is_goal(thing):
    return thing is None or is_whole(thing) and thing >= 0


def is_cursor(thing, size):
    if not isinstance(thing, tuple) or len(thing) != 3:
        return False
    return is_between(thing[0], 0, size) and is_between(thing[1], 0, size) and is_goal(thing[2])


def meet(begin, end, cursor):
    if begin_of(cursor) == end:
        return begin == end or is_empty(cursor)
    return begin_of(cursor) < end


def need_cursors(size, cursors):
    if not isinstance(cursors, list) or not 1 <= len(cursors) <= MOST_CURSORS:
        raise NoCursor("cursors are a list of 1 to 40")
    if not all([is_cursor(cursor, size) for cursor in cursors]):
        raise NoCursor("a cursor is a tuple of two places of the text and a goal")
    # One that begins ahead of its neighbour is held to meet it, so this finds what does not rise, too.
    if any([meet(begin_of(one), end_of(one), other) for one, other in zip(cursors, cursors[1:])]):
        raise NoCursor("cursors rise by their begins, and no two neighbours meet")


def gathered(cursors):
    order = sorted([(begin_of(cursor), end_of(cursor), number) for number, cursor in enumerate(cursors)])
    groups = []
    for begin, end, number in order:
        if len(groups) > 0 and meet(groups[-1][0], groups[-1][1], cursors[number]):
            group = groups.pop()
            groups.append((group[0], max(group[1], end), group[2] + [number]))
        else:
            groups.append((begin, end, [number]))
    return groups


def as_one(cursors, group):
    first = cursors[min(group[2])]
    if len(group[2]) == 1:
        return first
    return (group[1], group[0], None) if is_backward(first) else (group[0], group[1], None)


def settled(cursors):
    return [as_one(cursors, group) for group in gathered(cursors)]


def carried(change, cursors):
    track = Track(change)
    need_cursors(track.over, cursors)
    return settled([(track.to_left(anchor), track.to_left(head), None) for anchor, head, goal in cursors])
