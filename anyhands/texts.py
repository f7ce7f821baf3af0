"""LOTs, numbers, RANGES and sheets as texts, and back."""

from anyhands.errors import BadLine, BadText
from anyhands.ranges import is_ranges
from anyhands.words import lot_in, number_in, number_text

_LETTERS = "abcdefghijklmnopqrstuvwxyz"


def lot_text(lot):
    """The text of the LOT."""
    hours, errands = lot
    rows = [f"{first}-{last} {number_text(work)}" for (first, last), work in errands]
    told = ", ".join(rows) if rows else "-"
    return f"{hours}: {told}"


def read_lot(text):
    """The LOT with this text; raises BadText if there is none."""
    lot = lot_in(text)
    if lot is None:
        raise BadText()
    return lot


def numbers_text(numbers):
    """The text of these numbers."""
    return " ".join([number_text(number) for number in numbers])


def read_numbers(text):
    """The tuple of the numbers with this text; raises BadText if there is none."""
    numbers = [number_in(word) for word in text.split(" ")]
    if None in numbers:
        raise BadText()
    return tuple(numbers)


def ranges_text(ranges):
    """The text of the RANGES."""
    return " ".join([f"{number_text(low)}..{number_text(high)}" for low, high in ranges])


def _pair_in(text):
    """The pair (low, high) with this text; it has None where there is no number."""
    low, _, high = text.partition("..")
    return number_in(low), number_in(high)


def read_ranges(text):
    """The RANGES with this text; raises BadText if there are none."""
    pairs = tuple([_pair_in(word) for word in text.split(" ")])
    if not is_ranges(len(pairs), pairs):
        raise BadText()
    return pairs


def sheet_text(sheet):
    """The text of the sheet: a line for each pair (NAME, LOT)."""
    return "\n".join([f"{name} {lot_text(lot)}" for name, lot in sheet])


def _is_name(text):
    """Whether the text is a NAME."""
    return 1 <= len(text) <= 8 and all([sign in _LETTERS for sign in text])


def read_sheet(text):
    """The tuple of the pairs in the lines of this text; raises BadLine for the first one that is not so written."""
    sheet = []
    before = ""
    for number, line in enumerate(text.split("\n")):
        name, _, rest = line.partition(" ")
        lot = lot_in(rest)
        if lot is None or not _is_name(name) or name <= before:
            raise BadLine(number)
        sheet.append((name, lot))
        before = name
    return tuple(sheet)
