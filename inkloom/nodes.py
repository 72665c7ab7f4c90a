"""Nodes: trees of pieces of a stock, both sides of each node of nearly one height."""


def height_of(node):
    return 0 if node is None else node[3]


def size_of(node):
    return 0 if node is None else node[4]


def ends_of(node):
    return 0 if node is None else node[5]


def made(left, piece, right):
    height = 1 + max(height_of(left), height_of(right))
    size = size_of(left) + piece[1] + size_of(right)
    return (left, piece, right, height, size, ends_of(left) + piece[2] + ends_of(right))


def turned_right(left, piece, right):
    inner = left[2]
    if height_of(left[0]) >= height_of(inner):
        return made(left[0], left[1], made(inner, piece, right))
    return made(made(left[0], left[1], inner[0]), inner[1], made(inner[2], piece, right))


def turned_left(left, piece, right):
    inner = right[0]
    if height_of(right[2]) >= height_of(inner):
        return made(made(left, piece, inner), right[1], right[2])
    return made(made(left, piece, inner[0]), inner[1], made(inner[2], right[1], right[2]))


def leveled(left, piece, right):
    # Here the heights differ by 2 at most: one turn is enough.
    if height_of(left) > height_of(right) + 1:
        return turned_right(left, piece, right)
    if height_of(right) > height_of(left) + 1:
        return turned_left(left, piece, right)
    return made(left, piece, right)


def joined(left, piece, right):
    if height_of(left) > height_of(right) + 1:
        return leveled(left[0], left[1], joined(left[2], piece, right))
    if height_of(right) > height_of(left) + 1:
        return leveled(joined(left, piece, right[0]), right[1], right[2])
    return made(left, piece, right)


def last_out(node):
    if node[2] is None:
        return (node[0], node[1])
    out = last_out(node[2])
    return (joined(node[0], node[1], out[0]), out[1])


def first_out(node):
    if node[0] is None:
        return (node[1], node[2])
    out = first_out(node[0])
    return (out[0], joined(out[1], node[1], node[2]))


def met(left, right):
    if left is None:
        return right
    out = last_out(left)
    return joined(out[0], out[1], right)


def sewn(left, right):
    # Neighbours that lie one behind the other in the stock, too, become one piece.
    if left is None:
        return right
    last = last_out(left)
    first = first_out(right)
    one = last[1]
    other = first[0]
    if one[0] + one[1] == other[0]:
        return joined(last[0], (one[0], one[1] + other[1], one[2] + other[2]), first[1])
    return joined(last[0], one, right)


def cut_in_two(piece, size, stock):
    middle = piece[0] + size
    ends = stock.ends_ahead(middle) - stock.ends_ahead(piece[0])
    return ((piece[0], size, ends), (middle, piece[1] - size, piece[2] - ends))


def parted(node, place, stock):
    if node is None:
        return (None, None)
    piece = node[1]
    begin = size_of(node[0])
    end = begin + piece[1]
    if place <= begin:
        sides = parted(node[0], place, stock)
        return (sides[0], joined(sides[1], piece, node[2]))
    if place >= end:
        sides = parted(node[2], place - end, stock)
        return (joined(node[0], piece, sides[0]), sides[1])
    halves = cut_in_two(piece, place - begin, stock)
    return (joined(node[0], halves[0], None), joined(None, halves[1], node[2]))


def pieces_of(node):
    if node is None:
        return []
    pieces = pieces_of(node[0])
    pieces.append(node[1])
    pieces.extend(pieces_of(node[2]))
    return pieces


def ends_ahead_of(node, place, stock):
    ends = 0
    while node is not None:
        piece = node[1]
        begin = size_of(node[0])
        end = begin + piece[1]
        if place <= begin:
            node = node[0]
        elif place < end:
            ahead = stock.ends_ahead(piece[0] + place - begin) - stock.ends_ahead(piece[0])
            return ends + ends_of(node[0]) + ahead
        else:
            ends = ends + ends_of(node[0]) + piece[2]
            place = place - end
            node = node[2]
    return ends


def place_of_end(node, number, stock):
    place = 0
    while number < ends_of(node[0]) or number >= ends_of(node[0]) + node[1][2]:
        if number < ends_of(node[0]):
            node = node[0]
        else:
            number = number - ends_of(node[0]) - node[1][2]
            place = place + size_of(node[0]) + node[1][1]
            node = node[2]
    begin = node[1][0]
    end = stock.end_place(stock.ends_ahead(begin) + number - ends_of(node[0]))
    return place + size_of(node[0]) + end - begin
