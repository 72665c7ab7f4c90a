"""How two changes of one text pass one another."""

from inkloom.changes import Walk, neat, part_size, sizes
from inkloom.errors import BadFit


def put_first(walk, putting, keeping):
    part = walk.take(walk.left())
    putting.append(part)
    keeping.append(("keep", part_size(part)))


def share(first, second, ones, others):
    # Of signs that one change cuts nothing is left for the other one to keep or cut.
    if first[0] == "cut" and second[0] == "cut":
        if first[1] != second[1]:
            raise BadFit("both changes cut a sign, and tell it otherwise")
    elif second[0] == "keep":
        ones.append(first)
        if first[0] == "keep":
            others.append(second)
    else:
        others.append(second)


def passed(one, other):
    if sizes(one)[0] != sizes(other)[0]:
        raise BadFit("the changes are over unlike numbers of signs")
    first = Walk(one)
    second = Walk(other)
    ones = []
    others = []
    while first.word() != "" or second.word() != "":
        if first.word() == "put":
            put_first(first, ones, others)
        elif second.word() == "put":
            put_first(second, others, ones)
        else:
            size = min(first.left(), second.left())
            share(first.take(size), second.take(size), ones, others)
    return (neat(ones), neat(others))
