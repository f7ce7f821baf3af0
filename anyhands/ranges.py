"""Hands known within ranges: for each hour a pair (low, high) of numbers of hands."""

from anyhands.calendars import hands_in, is_calendar, is_done, undone
from anyhands.checks import need_alike, need_fit, need_stretch
from anyhands.hands import thinned_down_to
from anyhands.lots import hours_of
from anyhands.plain import is_number_pair
from anyhands.tables import all_stretches, asked


def is_ranges(hours, thing):
    """Whether thing is RANGES of so many hours."""
    if not isinstance(thing, tuple) or len(thing) != hours:
        return False
    return all([is_number_pair(part) and 0 <= part[0] <= part[1] for part in thing])


def is_within(ranges, thing):
    """Whether thing is a calendar within the RANGES."""
    if not is_calendar(len(ranges), thing):
        return False
    return all([low <= hands <= high for (low, high), hands in zip(ranges, thing)])


def _lows(ranges):
    """The calendar with as few hands as can be within the RANGES."""
    return tuple([low for low, _ in ranges])


def _highs(ranges):
    """The calendar with as many hands as can be within the RANGES."""
    return tuple([high for _, high in ranges])


def can_be_done(lot, ranges):
    """Whether some calendar within the RANGES does the LOT."""
    return is_done(lot, _highs(ranges))


def surely_done(lot, ranges):
    """Whether each calendar within the RANGES does the LOT."""
    return is_done(lot, _lows(ranges))


def undone_within(lot, ranges):
    """The least and the greatest number that is left undone by calendars within the RANGES."""
    return undone(lot, _highs(ranges)), undone(lot, _lows(ranges))


def least_hands_within(lot, ranges, first, last):
    """The least number of hands that this stretch has in a calendar within that does the LOT; None without one."""
    calendar = calendar_within(lot, ranges, first, last)
    return None if calendar is None else hands_in(calendar, first, last)


def calendar_within(lot, ranges, first, last):
    """A calendar within that does the LOT, with as few hands in this stretch as can be; None if there is none."""
    need_fit(lot, ranges)
    need_stretch(hours_of(lot), first, last)
    if not can_be_done(lot, ranges):
        return None
    # In whatever order its hours are thinned, the stretch ends with as many hands in all.
    return thinned_down_to(lot, _highs(ranges), _lows(ranges), list(range(first, last + 1)))


def never_more_within(one, other, ranges):
    """Whether each calendar within the RANGES that does other does one, too."""
    return against_within(one, other, ranges) is None


def against_within(one, other, ranges):
    """A calendar within the RANGES that does other and does not do one; None if there is none."""
    need_alike(one, other)
    if not can_be_done(other, ranges):
        return None
    for first, last in all_stretches(hours_of(one)):
        calendar = calendar_within(other, ranges, first, last)
        if hands_in(calendar, first, last) < asked(one, first, last):
            return calendar
    return None


def is_against_within(one, other, ranges, thing):
    """Whether thing is a calendar within the RANGES that does other and does not do one."""
    need_alike(one, other)
    need_fit(other, ranges)
    return is_within(ranges, thing) and is_done(other, thing) and not is_done(one, thing)
