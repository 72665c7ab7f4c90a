"""How cursors step through a paper."""

from inkloom.cursors import begin_of, end_of, is_empty, need_cursors, settled
from inkloom.errors import BadDeed
from inkloom.signs import is_truth, is_word

STEP_WORDS = ("left", "right", "home", "end", "top", "bottom", "back", "on", "up", "down")
WORD_SIGNS = "0123456789ABCDEFGHIJKLMNOPQRSTUVWXYZabcdefghijklmnopqrstuvwxyz"
OTHER_SIGNS = " !\"#$&'()*+,-./:;<=>?@[\\]^_`{|}~\n"
FIRST_STRIDE = 64


def need_step(word, hold):
    if not is_word(word, STEP_WORDS):
        raise BadDeed("no cursor steps by this word")
    if not is_truth(hold):
        raise BadDeed("hold is True or False")


def left_over(paper, place, signs):
    # Longer and longer parts are read: most words are short, and a paper may be long.
    stride = FIRST_STRIDE
    while place > 0:
        begin = max(0, place - stride)
        rest = paper.part(begin, place).rstrip(signs)
        if rest != "":
            return begin + len(rest)
        place = begin
        stride = 2 * stride
    return place


def right_over(paper, place, signs):
    stride = FIRST_STRIDE
    while place < paper.size():
        end = min(paper.size(), place + stride)
        rest = paper.part(place, end).lstrip(signs)
        if rest != "":
            return end - len(rest)
        place = end
        stride = 2 * stride
    return place


def place_in_line(paper, place, word):
    spot = paper.line_at(place)
    begin = place - spot[1]
    return begin if word == "home" else begin + paper.line_size(spot[0])


def place_by_word(paper, place, word):
    if word == "left":
        return max(0, place - 1)
    if word == "right":
        return min(paper.size(), place + 1)
    if word == "top":
        return 0
    if word == "bottom":
        return paper.size()
    if word == "back":
        return left_over(paper, left_over(paper, place, OTHER_SIGNS), WORD_SIGNS)
    if word == "on":
        return right_over(paper, right_over(paper, place, OTHER_SIGNS), WORD_SIGNS)
    return place_in_line(paper, place, word)


def place_in_next_line(paper, line, goal, word):
    other = line - 1 if word == "up" else line + 1
    if other < 0:
        return 0
    if other == paper.lines():
        return paper.size()
    return paper.place_at(other, min(goal, paper.line_size(other)))


def with_head(cursor, head, goal, hold):
    return (cursor[0] if hold else head, head, goal)


def step(paper, cursor, word, hold):
    if word in ("up", "down"):
        spot = paper.line_at(cursor[1])
        goal = spot[1] if cursor[2] is None else cursor[2]
        return with_head(cursor, place_in_next_line(paper, spot[0], goal, word), goal, hold)
    if word in ("left", "right") and not hold and not is_empty(cursor):
        return with_head(cursor, begin_of(cursor) if word == "left" else end_of(cursor), None, hold)
    return with_head(cursor, place_by_word(paper, cursor[1], word), None, hold)


def stepped(paper, cursor, word, hold):
    need_cursors(paper.size(), [cursor])
    need_step(word, hold)
    return step(paper, cursor, word, hold)


def all_stepped(paper, cursors, word, hold):
    need_cursors(paper.size(), cursors)
    need_step(word, hold)
    return settled([step(paper, cursor, word, hold) for cursor in cursors])
