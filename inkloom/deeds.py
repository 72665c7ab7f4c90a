"""What deeds are."""

from inkloom.cursors import MOST_CURSORS
from inkloom.entering import ERASE_WORDS
from inkloom.errors import BadDeed
from inkloom.moving import SIDES
from inkloom.signs import is_between, is_text, is_truth, is_word
from inkloom.steps import STEP_WORDS

MOST_NUMBER = 999999999


def are_texts(thing):
    if not isinstance(thing, tuple) or not 1 <= len(thing) <= MOST_CURSORS:
        return False
    return all([is_text(text) for text in thing])


def is_object(word, thing):
    if word == "enter":
        return is_text(thing)
    if word == "paste":
        return are_texts(thing)
    if word == "erase":
        return is_word(thing, ERASE_WORDS)
    if word in ("spread", "go"):
        return is_between(thing, 0, MOST_NUMBER)
    if word == "mark":
        return is_word(thing, SIDES)
    return word == "span" and is_truth(thing)


def is_deed(thing):
    if not isinstance(thing, tuple) or len(thing) == 0 or not isinstance(thing[0], str):
        return False
    if thing[0] in ("only", "undo", "redo"):
        return len(thing) == 1
    if thing[0] == "step":
        return len(thing) == 3 and is_word(thing[1], STEP_WORDS) and is_truth(thing[2])
    return len(thing) == 2 and is_object(thing[0], thing[1])


def need_deed(deed):
    if not is_deed(deed):
        raise BadDeed("this is no deed")
