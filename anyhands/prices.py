"""Prices: what a hand of each hour costs, and what the cheapest hands for a LOT cost together."""

from anyhands.calendars import is_calendar, is_done
from anyhands.checks import need_alike, need_fit, need_hour, need_order
from anyhands.errors import Unfit
from anyhands.lots import hours_of
from anyhands.plain import changed_at, is_number_row


def is_prices(hours, thing):
    """Whether thing is prices of so many hours."""
    return is_number_row(hours, thing)


def expense(calendar, prices):
    """What all hands of the calendar cost together; raises Unfit if both have not as many hours."""
    if len(calendar) != len(prices):
        raise Unfit()
    return sum([hands * price for hands, price in zip(calendar, prices)])


def cheapest(lot, prices):
    """What the LOT costs."""
    need_fit(lot, prices)
    return sum([work * min(prices[first:last + 1]) for (first, last), work in lot[1]])


def cheapest_hands(lot, prices):
    """A calendar with which the LOT is done for what it costs."""
    need_fit(lot, prices)
    hands = [0] * hours_of(lot)
    for (first, last), work in lot[1]:
        cheap = min([(prices[hour], hour) for hour in range(first, last + 1)])
        hands[cheap[1]] += work
    return tuple(hands)


def is_cheapest(lot, prices, thing):
    """Whether thing is a calendar with which the LOT is done for what it costs."""
    least = cheapest(lot, prices)
    if not is_calendar(hours_of(lot), thing):
        return False
    return is_done(lot, thing) and expense(thing, prices) == least


def asked_of(lot, some):
    """The work of all errands whose windows have no hours but some; raises NoHour for the first that is none."""
    for hour in some:
        need_hour(hours_of(lot), hour)
    return sum([work for (first, last), work in lot[1] if _has_each(some, first, last)])


def _has_each(some, first, last):
    """Whether each hour from first to last is one of some."""
    return all([hour in some for hour in range(first, last + 1)])


def levels(lot, prices):
    """For each price above 0 how far it is above the next lesser one, and what the hours from it on ask."""
    need_fit(lot, prices)
    rows = []
    lower = 0
    for number in sorted({price for price in prices if price > 0}):
        dear = [hour for hour, price in enumerate(prices) if price >= number]
        rows.append((number - lower, asked_of(lot, dear)))
        lower = number
    return rows


def _asked_of_each(lot):
    """What each set of hours asks; a set is the number that has the bits of its hours."""
    hours, errands = lot
    windows = [((2 << last) - (1 << first), work) for (first, last), work in errands]
    return [sum([work for window, work in windows if window & some == window]) for some in range(1 << hours)]


def _excess_of_each(one, other):
    """How much more each set of hours, numbered as above, asks of one than of other, below 0 too."""
    need_alike(one, other)
    return [more - less for more, less in zip(_asked_of_each(one), _asked_of_each(other))]


def _hours_in(hours, some):
    """The set of hours whose number this is."""
    return tuple([hour for hour in range(hours) if some >> hour & 1 == 1])


def excess(one, other, most=1):
    """The greatest number by which one costs more than other, by prices of which none is above most."""
    # Prices 0 and 1 alone decide; the set without hours is among them, so this is never below 0.
    return most * max(_excess_of_each(one, other))


def excess_hours(one, other):
    """The least set of hours that asks as much more of one than of other as excess tells."""
    numbers = _excess_of_each(one, other)
    greatest = max(numbers)
    return min([_hours_in(hours_of(one), some) for some, number in enumerate(numbers) if number == greatest])


def never_dearer_in(one, other, order):
    """Whether one costs at most as much as other by all prices that do not fall along the order."""
    numbers = _excess_of_each(one, other)
    need_order(hours_of(one), order)
    # Such prices are sums of steps, each of which raises the hours from one place of the order on.
    some = 0
    for hour in reversed(list(order)):
        some += 1 << hour
        if numbers[some] > 0:
            return False
    return True


def how_many_orders(one, other):
    """In how many orders one is never dearer than other."""
    numbers = _excess_of_each(one, other)
    # ways[some] is in how many orders these hours, as the last ones, can stand.
    ways = [1]
    for some in range(1, len(numbers)):
        ahead = [ways[some - (1 << hour)] for hour in _hours_in(hours_of(one), some)]
        ways.append(sum(ahead) if numbers[some] <= 0 else 0)
    return ways[-1]


def rise(lot, prices, hour):
    """How much more the LOT costs if the price of this hour is one more; raises NoHour if there is none."""
    now = cheapest(lot, prices)
    need_hour(hours_of(lot), hour)
    return cheapest(lot, changed_at(prices, hour, 1)) - now


def fall(lot, prices, hour):
    """How much less the LOT costs if the price of this hour is one less; 0 if it is 0."""
    now = cheapest(lot, prices)
    need_hour(hours_of(lot), hour)
    if prices[hour] == 0:
        return 0
    return now - cheapest(lot, changed_at(prices, hour, -1))
