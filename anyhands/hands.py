"""As few hands as can be: the calendars that do a LOT, and no longer do it with a hand less."""

from anyhands.calendars import is_calendar, is_done, undone
from anyhands.checks import need_alike, need_fit, need_hour, need_order
from anyhands.lots import all_work, hours_of
from anyhands.plain import rounded_up, with_tuples
from anyhands.prices import asked_of, excess, excess_hours
from anyhands.tables import all_stretches, asked, table_of


def _asked_by_stretch(lot):
    """What each stretch asks, by the stretch, ascending."""
    return dict(zip(all_stretches(hours_of(lot)), table_of(lot)))


def even_hands(lot):
    """The least number of hands which, being the same each hour, do the LOT."""
    return least_times(lot, [1] * hours_of(lot))


def tightest(lot):
    """The least stretch that asks more than its hours have with one hand fewer each; None without work."""
    fewer = even_hands(lot) - 1
    if fewer < 0:
        return None
    numbers = _asked_by_stretch(lot)
    return min([(first, last) for first, last in numbers if numbers[(first, last)] > fewer * (last - first + 1)])


def least_times(lot, weights):
    """The least number such that so many times the weights do the LOT; None if there is none."""
    need_fit(lot, weights)
    least = 0
    for (first, last), number in _asked_by_stretch(lot).items():
        share = sum(weights[first:last + 1])
        if number > 0 and share == 0:
            return None
        if number > 0:
            least = max(least, rounded_up(number, share))
    return least


def _free_hands(numbers, calendar, hour):
    """How many hands this hour alone could have fewer; numbers tells what each stretch asks."""
    own = [(first, last) for first, last in numbers if first <= hour <= last]
    return min([sum(calendar[first:last + 1]) - numbers[(first, last)] for first, last in own])


def slack(lot, calendar):
    """For each hour how many hands it alone could have fewer; None if the calendar does not do the LOT."""
    if not is_done(lot, calendar):
        return None
    numbers = _asked_by_stretch(lot)
    return tuple([_free_hands(numbers, calendar, hour) for hour in range(hours_of(lot))])


def is_least(lot, calendar):
    """Whether the calendar is a least calendar of the LOT."""
    return is_done(lot, calendar) and sum(calendar) == all_work(lot)


def thinned_down_to(lot, calendar, lows, hours):
    """The calendar, which does the LOT, if each of the hours in turn gets as few hands as can be, not below its low."""
    numbers = _asked_by_stretch(lot)
    hands = list(calendar)
    for hour in hours:
        hands[hour] -= min(_free_hands(numbers, hands, hour), hands[hour] - lows[hour])
    return tuple(hands)


def thinned(lot, calendar):
    """The calendar if each hour in turn gets as few hands as can be; None if it does not do the LOT."""
    if not is_done(lot, calendar):
        return None
    hours = list(range(hours_of(lot)))
    return thinned_down_to(lot, calendar, [0] * len(hours), hours)


def least_by(lot, order):
    """The least calendar whose hours, in this order, have as few hands as can be."""
    need_order(hours_of(lot), order)
    hands = [0] * hours_of(lot)
    before = 0
    for place, hour in enumerate(order):
        # Together the hours up to this one need what they ask; those ahead have their part already.
        together = asked_of(lot, order[:place + 1])
        hands[hour] = together - before
        before = together
    return tuple(hands)


def hands_range(lot, first, last):
    """The least and the greatest number of hands of this stretch in all least calendars."""
    least = asked(lot, first, last)
    elsewhere = [work for (begin, end), work in lot[1] if end < first or last < begin]
    return least, all_work(lot) - sum(elsewhere)


def hour_range(lot, hour):
    """The least and the greatest number of hands of this hour in all least calendars."""
    need_hour(hours_of(lot), hour)
    return hands_range(lot, hour, hour)


def _next_hands(numbers, work, row):
    """The ascending list of the numbers of hands that the hour behind this beginning of a least calendar can have."""
    hour = len(row)
    low = max([numbers[(first, hour)] - sum(row[first:]) for first in range(hour + 1)])
    # What the hours behind ask must be left for them.
    behind = max([number for (first, _), number in numbers.items() if first > hour], default=0)
    return list(range(low, work - behind - sum(row) + 1))


def all_least(lot):
    """The ascending list of the least calendars."""
    numbers = _asked_by_stretch(lot)
    work = all_work(lot)
    rows = [()]
    for _ in range(hours_of(lot)):
        rows = [row + (hands,) for row in rows for hands in _next_hands(numbers, work, row)]
    return rows


def how_many_least(lot):
    """How many least calendars there are."""
    return len(all_least(lot))


def nth_least(lot, number):
    """The least calendar with this number; None if there is none."""
    calendars = all_least(lot)
    return calendars[number] if 0 <= number < len(calendars) else None


def number_least(lot, calendar):
    """The number of this least calendar; None if it is none."""
    if not is_least(lot, calendar):
        return None
    return all_least(lot).index(with_tuples(calendar))


def most_undone(one, other):
    """The greatest number, over all calendars, that is left undone of one less what is left undone of other."""
    # Hours without hands among hours with hands enough: of each LOT just what they ask is left undone.
    return excess(one, other)


def undone_calendar(one, other):
    """A calendar by which as much more is left undone of one than of other as most_undone tells."""
    idle = excess_hours(one, other)
    enough = max(all_work(one), all_work(other))
    return tuple([0 if hour in idle else enough for hour in range(hours_of(one))])


def is_undone_calendar(one, other, thing):
    """Whether thing is a calendar such as undone_calendar returns."""
    need_alike(one, other)
    if not is_calendar(hours_of(one), thing):
        return False
    return undone(one, thing) - undone(other, thing) == most_undone(one, other)
