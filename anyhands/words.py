"""How numbers are written, and what texts of numbers and of LOTs say."""

from anyhands.lots import is_lot

_DIGITS = "0123456789"
# Python itself refuses to write or to read some thousands of digits at once, so that it is done by parts.
_LENGTH = 60
_PART = 10 ** 60


def number_text(number):
    """The decimal digits of a number from 0."""
    parts = []
    left = number
    while left >= _PART:
        left, part = divmod(left, _PART)
        parts.append(str(part).zfill(_LENGTH))
    return str(left) + "".join(reversed(parts))


def number_in(text):
    """The number from 0 with this text; None if there is none."""
    if text == "" or not all([sign in _DIGITS for sign in text]):
        return None
    if text[0] == "0" and text != "0":
        return None
    begin = len(text) % _LENGTH
    number = int("0" + text[:begin])
    for place in range(begin, len(text), _LENGTH):
        number = number * _PART + int(text[place:place + _LENGTH])
    return number


def _errand_in(text):
    """The pair (window, work) with this text; it has None where there is no number."""
    window, _, work = text.partition(" ")
    first, _, last = window.partition("-")
    return (number_in(first), number_in(last)), number_in(work)


def lot_in(text):
    """The LOT with this text; None if there is none."""
    hours, _, rest = text.partition(": ")
    errands = [] if rest == "-" else [_errand_in(part) for part in rest.split(", ")]
    lot = (number_in(hours), tuple(errands))
    return lot if is_lot(lot) else None
