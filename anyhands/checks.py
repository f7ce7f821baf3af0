"""What the files need of their arguments, and the errors that are raised if it is not so."""

from anyhands.errors import NoHour, NoStretch, Unfit, Unlike
from anyhands.plain import is_number


def has_stretch(hours, first, last):
    """Whether first to last is a stretch of so many hours."""
    return 0 <= first <= last < hours


def need_stretch(hours, first, last):
    """Raise NoStretch if first to last is no stretch of so many hours."""
    if not has_stretch(hours, first, last):
        raise NoStretch(first, last)


def need_hour(hours, hour):
    """Raise NoHour if there is no such hour."""
    if not 0 <= hour < hours:
        raise NoHour(hour)


def need_fit(lot, numbers):
    """Raise Unfit if there are not as many numbers as the LOT has hours."""
    if len(numbers) != lot[0]:
        raise Unfit()


def need_rows(hours, rows):
    """Raise Unfit if one of the rows has not as many numbers as there are hours."""
    if not all([len(row) == hours for row in rows]):
        raise Unfit()


def need_alike(one, other):
    """Raise Unlike if the LOTs have not as many hours."""
    if one[0] != other[0]:
        raise Unlike()


def _is_order(hours, values):
    """Whether the values are each of so many hours just once."""
    if not isinstance(values, (list, tuple)) or not all([is_number(part) for part in values]):
        return False
    return sorted(values) == list(range(hours))


def need_order(hours, values):
    """Raise Unfit if the values are not each of so many hours just once."""
    if not _is_order(hours, values):
        raise Unfit()
