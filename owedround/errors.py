"""The errors of the package.

Those with a value of their own keep it in an attribute; the others take a message.
"""


class WebError(ValueError):
    """Something passed is not what it has to be."""


class InvalidPlace(WebError):
    """Not a name, not a place, or a place too many."""


class InvalidTie(WebError):
    """Not a tie, or not one that is wanted here."""


class InvalidRing(WebError):
    """Not a ring."""


class InvalidWeb(WebError):
    """Not a web."""


class InvalidTable(WebError):
    """Not a table."""


class InvalidRim(WebError):
    """Not a rim."""


class InvalidDebts(WebError):
    """Not debts."""


class InvalidPlan(WebError):
    """Not a plan."""


class InvalidTree(WebError):
    """Not a joining tree."""


class InvalidRide(WebError):
    """Not a ride."""


class InvalidLeaning(WebError):
    """Not a leaning."""


class InvalidTurn(WebError):
    """Not a turn of a leaning."""


class InvalidDrawing(WebError):
    """A table that is no drawing."""


class InvalidOperation(WebError):
    """Something that cannot be done with these values."""


class ParseError(WebError):
    """A line that cannot be read; `number` is its index, or None."""

    def __init__(self, number):
        self.number = number


class UnknownName(KeyError):
    """No place is called `word`."""

    def __init__(self, word):
        self.word = word


class InvalidNumber(IndexError):
    """`value` is not a number that is wanted here."""

    def __init__(self, value):
        self.value = value


class NothingToUndo(RuntimeError):
    """There are not as many as `many` changes to take back, or to do again."""

    def __init__(self, many):
        self.many = many


class TooMany(OverflowError):
    """There would be more than `limit`."""

    def __init__(self, limit):
        self.limit = limit


class Refused(ArithmeticError):
    """`pledge` would not hold any more."""

    def __init__(self, pledge):
        self.pledge = pledge
