"""Tables: a number for each stretch, in ascending order of the stretches (first, last)."""

from anyhands.checks import has_stretch, need_stretch
from anyhands.lots import hours_of, made_lot
from anyhands.plain import is_number, is_number_pair


def is_stretch(hours, thing):
    """Whether thing is a stretch (first, last) of so many hours."""
    return is_number_pair(thing) and has_stretch(hours, thing[0], thing[1])


def all_stretches(hours):
    """The ascending list of all stretches."""
    return [(first, last) for first in range(hours) for last in range(first, hours)]


def lies_within(one, other):
    """Whether each hour of the stretch one is an hour of the stretch other."""
    return other[0] <= one[0] and one[1] <= other[1]


def asked(lot, first, last):
    """What the stretch (first, last) asks of the LOT; raises NoStretch if there is no such stretch."""
    hours, errands = lot
    need_stretch(hours, first, last)
    return sum([work for window, work in errands if lies_within(window, (first, last))])


def table_of(lot):
    """The table of what each stretch asks of the LOT."""
    return tuple([asked(lot, first, last) for first, last in all_stretches(hours_of(lot))])


def _single(numbers, first, last):
    """What the stretch has beyond its shorter ones; a stretch that is none counts as 0."""
    shorter = numbers.get((first + 1, last), 0) + numbers.get((first, last - 1), 0)
    return numbers[(first, last)] - shorter + numbers.get((first + 1, last - 1), 0)


def singles(hours, table):
    """The tuple of what each stretch has of itself alone, by the table."""
    stretches = all_stretches(hours)
    numbers = dict(zip(stretches, table))
    return tuple([_single(numbers, first, last) for first, last in stretches])


def lot_of(hours, table):
    """The LOT with this table; None if there is none."""
    works = singles(hours, table)
    if min(works) < 0:
        return None
    return made_lot(hours, list(zip(all_stretches(hours), works)))


def is_table(hours, thing):
    """Whether thing is the table of a LOT of so many hours."""
    if not isinstance(thing, tuple) or len(thing) != hours * (hours + 1) // 2:
        return False
    return all([is_number(part) for part in thing]) and lot_of(hours, thing) is not None
