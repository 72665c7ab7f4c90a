"""What whole numbers, texts and the like are."""

from inkloom.errors import BadText

SIGNS = " !\"#$&'()*+,-./0123456789:;<=>?@ABCDEFGHIJKLMNOPQRSTUVWXYZ[\\]^_`abcdefghijklmnopqrstuvwxyz{|}~\n"


def is_whole(thing):
    # To Python True and False are ints, too.
    return isinstance(thing, int) and not isinstance(thing, bool)


def is_between(thing, least, most):
    return is_whole(thing) and least <= thing <= most


def is_truth(thing):
    return thing is True or thing is False


def is_word(thing, words):
    # Things of other kinds may compare in ways of their own: only a str is compared.
    return isinstance(thing, str) and thing in words


def is_text(thing):
    # Nothing is left exactly where all signs are good ones; a walk sign by sign would be slow for long texts.
    return isinstance(thing, str) and thing.lstrip(SIGNS) == ""


def need_text(thing):
    if not is_text(thing):
        raise BadText("a text is a str of signs from the blank to the tilde, and line feeds")
