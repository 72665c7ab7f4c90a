"""Changes: what they are, how parts are made neat, and how a change is done to a text."""

from inkloom.errors import BadChange, BadFit, NoPlace
from inkloom.signs import is_between, is_text, is_whole, is_word, need_text

WAYS_BACK = {"keep": "keep", "cut": "put", "put": "cut"}


def is_part(thing):
    if not isinstance(thing, tuple) or len(thing) != 2:
        return False
    if is_word(thing[0], ("keep",)):
        return is_whole(thing[1]) and thing[1] >= 1
    return is_word(thing[0], ("cut", "put")) and is_text(thing[1]) and thing[1] != ""


def may_follow(word, ahead):
    return word != ahead and not (ahead == "cut" and word == "put")


def need_change(change):
    if not isinstance(change, list):
        raise BadChange("a change is a list")
    ahead = ""
    for part in change:
        if not is_part(part):
            raise BadChange("a part is a keep of 1 sign or more, or a cut or put of a text that is not empty")
        if not may_follow(part[0], ahead):
            raise BadChange("neighbours have two words, and no put stands right behind a cut")
        ahead = part[0]


def is_change(thing):
    try:
        need_change(thing)
    except BadChange:
        return False
    return True


def part_size(part):
    return part[1] if part[0] == "keep" else len(part[1])


def sizes(change):
    need_change(change)
    over = sum([part_size(part) for part in change if part[0] != "put"])
    gives = sum([part_size(part) for part in change if part[0] != "cut"])
    return (over, gives)


def keeps_all(change):
    return all([part[0] == "keep" for part in change])


class Walk:
    # An offset moves through long texts; cutting off what was taken would copy the rest each time.
    def __init__(self, change):
        self.parts = list(change)
        self.passed_by = 0
        self.offset = 0

    def word(self):
        return self.parts[self.passed_by][0] if self.passed_by < len(self.parts) else ""

    def left(self):
        return part_size(self.parts[self.passed_by]) - self.offset

    def take(self, size):
        part = self.parts[self.passed_by]
        begin = self.offset
        end = begin + size
        self.offset = end
        if self.left() == 0:
            self.passed_by = self.passed_by + 1
            self.offset = 0
        return (part[0], size if part[0] == "keep" else part[1][begin:end])


def add_keep(change, size):
    # Two keeps come together where nothing of any size was put or cut between them.
    if len(change) > 0 and change[-1][0] == "keep":
        size = size + change.pop()[1]
    change.append(("keep", size))


def add_texts(change, puts, cuts):
    put = "".join(puts)
    cut = "".join(cuts)
    if put != "":
        change.append(("put", put))
    if cut != "":
        change.append(("cut", cut))


def neat(parts):
    change = []
    puts = []
    cuts = []
    for word, what in parts:
        if word == "put":
            puts.append(what)
        elif word == "cut":
            cuts.append(what)
        elif what > 0:
            add_texts(change, puts, cuts)
            puts = []
            cuts = []
            add_keep(change, what)
    add_texts(change, puts, cuts)
    return change


def done(text, change):
    need_text(text)
    if sizes(change)[0] != len(text):
        raise BadFit("the change is over a text of another number of signs")
    place = 0
    pieces = []
    for word, what in change:
        if word == "put":
            pieces.append(what)
        elif word == "keep":
            pieces.append(text[place:place + what])
            place = place + what
        elif not text.startswith(what, place):
            raise BadFit("what is cut is not what stands there")
        else:
            place = place + len(what)
    return "".join(pieces)


def back(change):
    need_change(change)
    return neat([(WAYS_BACK[word], what) for word, what in change])


def need_swap(begin, end, least, most):
    if not is_between(begin, least, most) or not is_between(end, begin, most):
        raise NoPlace("a swap leads from a place to one that is no less, none ahead of the swap ahead")


def swapped(text, swaps):
    need_text(text)
    parts = []
    place = 0
    for begin, end, put in swaps:
        need_swap(begin, end, place, len(text))
        need_text(put)
        parts.extend([("keep", begin - place), ("put", put), ("cut", text[begin:end])])
        place = end
    parts.append(("keep", len(text) - place))
    return neat(parts)
