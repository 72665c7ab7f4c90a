"""One error class for each kind of refusal, all of them straight under InkError."""


class InkError(ValueError):
    pass


class BadText(InkError):
    pass


class BadChange(InkError):
    pass


class BadFit(InkError):
    pass


class NoPlace(InkError):
    pass


class BadSide(InkError):
    pass


class NoMark(InkError):
    pass


class NoNode(InkError):
    pass


class NoCursor(InkError):
    pass


class BadDeed(InkError):
    pass


class BadLetter(InkError):
    pass


class NoLetter(InkError):
    pass


class NoHand(InkError):
    pass


class NoNote(InkError):
    pass
