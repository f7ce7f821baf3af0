"""The errors of the package. What they keep has tuples for lists, at any depth."""

from anyhands.plain import with_tuples


class Unlike(ValueError):
    """LOTs have not as many hours."""


class Unfit(ValueError):
    """Something has not as many numbers as there are hours, or does not fit them."""


class NoMove(ValueError):
    """The move is none, or it cannot be done."""

    def __init__(self, move):
        self.move = with_tuples(move)


class TooFew(ValueError):
    """There is less than is to be taken from the hours first to last."""

    def __init__(self, first, last):
        self.first = with_tuples(first)
        self.last = with_tuples(last)


class BadText(ValueError):
    """The text is not that of such a thing."""


class BadLine(ValueError):
    """The line with this number is not written as it must be."""

    def __init__(self, number):
        self.number = with_tuples(number)


class NoStretch(LookupError):
    """There is no stretch of hours from first to last."""

    def __init__(self, first, last):
        self.first = with_tuples(first)
        self.last = with_tuples(last)


class NoHour(LookupError):
    """There is no such hour."""

    def __init__(self, hour):
        self.hour = with_tuples(hour)


class NothingDone(LookupError):
    """There is nothing that can be taken back."""
