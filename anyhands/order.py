"""Which of two LOTs, or of several, never asks more than another one."""

from anyhands.calendars import is_calendar, is_done
from anyhands.checks import need_alike
from anyhands.lots import hours_of
from anyhands.plain import with_tuples
from anyhands.prices import cheapest, cheapest_hands, is_prices
from anyhands.tables import all_stretches, table_of


def never_more(one, other):
    """Whether each stretch asks at most as much of one as of other."""
    return not over(one, other)


def compare(one, other):
    """How one is beside other: "alike", "lighter", "heavier", or "neither" of these."""
    if with_tuples(one) == with_tuples(other):
        return "alike"
    if never_more(one, other):
        return "lighter"
    return "heavier" if never_more(other, one) else "neither"


def over(one, other):
    """The triples (first, last, more) of the stretches that ask more of one than of other, so much more."""
    need_alike(one, other)
    rows = list(zip(all_stretches(hours_of(one)), table_of(one), table_of(other)))
    return [(first, last, more - less) for (first, last), more, less in rows if more > less]


def heavy_calendar(one, other):
    """A calendar with which all of other can be done, and not all of one; None if one never asks more."""
    prices = heavy_prices(one, other)
    # The cheapest hands for other cost too little to do one.
    return None if prices is None else cheapest_hands(other, prices)


def is_heavy_calendar(one, other, thing):
    """Whether thing is a calendar with which all of other can be done, and not all of one."""
    need_alike(one, other)
    return is_calendar(hours_of(one), thing) and is_done(other, thing) and not is_done(one, thing)


def heavy_prices(one, other):
    """Prices by which the cheapest hands for one cost more than those for other; None if one never asks more."""
    heavier = over(one, other)
    if not heavier:
        return None
    # By prices 1 in a stretch and 0 elsewhere a LOT costs what the stretch asks.
    first, last, _ = heavier[0]
    return tuple([1 if first <= hour <= last else 0 for hour in range(hours_of(one))])


def is_heavy_prices(one, other, thing):
    """Whether thing is prices by which the cheapest hands for one cost more than those for other."""
    need_alike(one, other)
    return is_prices(hours_of(one), thing) and cheapest(one, thing) > cheapest(other, thing)


def _tables_of(lots):
    """The tables of these LOTs; raises Unlike if not all of them have as many hours."""
    for lot in lots:
        need_alike(lots[0], lot)
    return [table_of(lot) for lot in lots]


def _at_most(one, other):
    """Whether no number of the one table is above that of the other."""
    return all([low <= high for low, high in zip(one, other)])


def always_lightest(lots):
    """The place of the first LOT that never asks more than any of the others; None if there is none."""
    tables = _tables_of(lots)
    for place, table in enumerate(tables):
        if all([_at_most(table, other) for other in tables]):
            return place
    return None


def always_heaviest(lots):
    """The place of the first LOT than which each of the others never asks more; None if there is none."""
    tables = _tables_of(lots)
    for place, table in enumerate(tables):
        if all([_at_most(other, table) for other in tables]):
            return place
    return None


def _is_beaten(table, tables):
    """Whether another one of these tables, unlike this one, has no number above it."""
    return any([other != table and _at_most(other, table) for other in tables])


def unbeaten(lots):
    """The set of the places of the LOTs than which no other one, unlike them, never asks more."""
    tables = _tables_of(lots)
    return tuple([place for place, table in enumerate(tables) if not _is_beaten(table, tables)])
