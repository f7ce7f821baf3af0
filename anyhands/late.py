"""Late: hours go on behind the last one, and work that is not done in its window is done later."""

from anyhands.calendars import is_calendar
from anyhands.checks import need_alike, need_fit
from anyhands.lots import hours_of, made_lot
from anyhands.order import heavy_calendar, never_more
from anyhands.plain import is_number, rounded_up
from anyhands.tables import all_stretches, asked, table_of


def _reached(calendar, after, first, many):
    """The least hour by whose end the hours from first on had so many hands; None if there is none."""
    left = many
    hour = first - 1
    while left > 0 and hour < len(calendar) - 1:
        hour += 1
        left -= calendar[hour]
    if left <= 0:
        return hour
    return None if after == 0 else hour + rounded_up(left, after)


def _lateness_of_each(lot, calendar, after):
    """For each stretch, ascending, how many hours behind its last one it needs; None if all are too few."""
    need_fit(lot, calendar)
    needed = {}
    for (first, last), number in zip(all_stretches(hours_of(lot)), table_of(lot)):
        hour = _reached(calendar, after, first, number)
        needed[(first, last)] = None if hour is None else max(0, hour - last)
    return needed


def _greatest(needed):
    """The greatest of these numbers of hours; None, which is above all numbers, if one of them is None."""
    numbers = list(needed.values())
    return None if None in numbers else max(numbers)


def lateness(lot, calendar, after):
    """By how many hours, at the least, each window must be longer such that all is done; None if there is none."""
    return _greatest(_lateness_of_each(lot, calendar, after))


def done_late(lot, calendar, after, late):
    """Whether there is a lateness, and it is at most late."""
    number = lateness(lot, calendar, after)
    return number is not None and number <= late


def late_stretches(lot, calendar, after):
    """The set of the stretches for whose sake the lateness is not less; () if it is 0."""
    needed = _lateness_of_each(lot, calendar, after)
    most = _greatest(needed)
    if most == 0:
        return ()
    return tuple([stretch for stretch, late in needed.items() if late == most])


def finish(lot, calendar, after):
    """The least hour by whose end all can be done if no window ends; -1 for no work, None if there is none."""
    need_fit(lot, calendar)
    hours = hours_of(lot)
    works = [asked(lot, first, hours - 1) for first in range(hours)]
    ends = [_reached(calendar, after, first, work) for first, work in enumerate(works) if work > 0]
    return None if None in ends else max(ends, default=-1)


def least_after(lot, calendar, late):
    """The least number after with which the lateness is at most late; None if there is none."""
    need_fit(lot, calendar)
    hours = hours_of(lot)
    least = 0
    for (first, last), number in zip(all_stretches(hours), table_of(lot)):
        left = number - sum(calendar[first:last + late + 1])
        beyond = last + late - (hours - 1)
        if left > 0 and beyond <= 0:
            return None
        if left > 0:
            least = max(least, rounded_up(left, beyond))
    return least


def longer(lot, late):
    """The LOT of late more hours in which each window is late hours longer at its end."""
    hours, errands = lot
    return made_lot(hours + late, [((first, last + late), work) for (first, last), work in errands])


def never_later(one, other):
    """Whether, for all calendars and all numbers after, the lateness of one is at most that of other."""
    return never_more(one, other)


def later_calendar(one, other):
    """A pair (calendar, after) by which one is later than other; None if there is none."""
    calendar = heavy_calendar(one, other)
    # By this calendar other is not late at all, and one is, whatever comes behind.
    return None if calendar is None else (calendar, 0)


def is_later_calendar(one, other, thing):
    """Whether thing is a pair (calendar, after) by which one is later than other."""
    need_alike(one, other)
    if not isinstance(thing, tuple) or len(thing) != 2:
        return False
    calendar, after = thing
    if not is_calendar(hours_of(one), calendar) or not is_number(after) or after < 0:
        return False
    late, its = lateness(one, calendar, after), lateness(other, calendar, after)
    return its is not None and (late is None or late > its)
