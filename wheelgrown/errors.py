"""All errors that the package raises."""


class WebError(ValueError):
    """The kind of all errors about a value that has not the form it should have."""


class InvalidPlace(WebError):
    """No name, no tuple of names, or the name of a place that is there already."""


class InvalidTie(WebError):
    """No tie, or not one that can be asked for here."""


class InvalidWeb(WebError):
    """No web."""


class InvalidRoute(WebError):
    """No route, or no ring."""


class InvalidStep(WebError):
    """No step that can be done."""


class InvalidGrowth(WebError):
    """No growth, or no wheel."""


class InvalidPart(WebError):
    """No part, or no block."""


class InvalidDrawing(WebError):
    """No drawing."""


class InvalidModel(WebError):
    """No model."""


class InvalidOperation(WebError):
    """What is asked for makes no sense with these values."""


class ParseError(WebError):
    """A text that cannot be read; `number` is the index of the line, or None."""

    def __init__(self, number):
        self.number = number


class UnknownName(KeyError):
    """`word` was looked up and is not there."""

    def __init__(self, word):
        self.word = word


class Parted(LookupError):
    """A web that should be held has a `parting`."""

    def __init__(self, parting):
        self.parting = parting


class InvalidNumber(IndexError):
    """`value` is no integer, or beyond the limits."""

    def __init__(self, value):
        self.value = value


class NothingToUndo(RuntimeError):
    """There are not so `many` changes to take back, or to do again."""

    def __init__(self, many):
        self.many = many


class TooMany(OverflowError):
    """There would be more than the `limit`."""

    def __init__(self, limit):
        self.limit = limit


class Refused(ArithmeticError):
    """A `pledge` would not hold."""

    def __init__(self, pledge):
        self.pledge = pledge
