"""Calendars: the hands of each hour, what they do of a LOT, and what they leave undone."""

from anyhands.checks import need_fit, need_stretch
from anyhands.lots import hours_of, made_lot
from anyhands.plain import changed_at, is_number, is_number_pair, is_number_row, with_tuples
from anyhands.tables import all_stretches, is_stretch, table_of


def is_calendar(hours, thing):
    """Whether thing is a calendar of so many hours."""
    return is_number_row(hours, thing)


def hands_in(calendar, first, last):
    """The hands of this stretch together; raises NoStretch if there is no such one."""
    need_stretch(len(calendar), first, last)
    return sum(calendar[first:last + 1])


def _shortages(lot, calendar):
    """For each stretch, ascending, how much more is asked of it than it has hands, below 0 too."""
    need_fit(lot, calendar)
    pairs = list(zip(all_stretches(hours_of(lot)), table_of(lot)))
    return {(first, last): number - hands_in(calendar, first, last) for (first, last), number in pairs}


def is_done(lot, calendar):
    """Whether the calendar does the LOT."""
    return not short_stretches(lot, calendar)


def short_stretches(lot, calendar):
    """The pairs of the stretches of which more is asked than they have hands, and how much more."""
    return [(stretch, more) for stretch, more in _shortages(lot, calendar).items() if more > 0]


def full_stretches(lot, calendar):
    """The stretches of which just as much is asked as they have hands."""
    return [stretch for stretch, more in _shortages(lot, calendar).items() if more == 0]


def _most_lacking(lot, calendar):
    """The greatest sum of shortages of stretches without a common hour, and these stretches."""
    shortages = _shortages(lot, calendar)
    # best[hour] is the greatest sum, with its stretches, of those that end ahead of this hour.
    best = [(0, ())]
    for last in range(hours_of(lot)):
        most = best[last]
        for first in range(last + 1):
            number = best[first][0] + shortages[(first, last)]
            if number > most[0]:
                most = (number, best[first][1] + ((first, last),))
        best.append(most)
    return best[-1]


def undone(lot, calendar):
    """How much work is left undone at the least."""
    return _most_lacking(lot, calendar)[0]


def lacking(lot, calendar):
    """Stretches without a common hour of which, all together, as much too much is asked as is left undone."""
    return _most_lacking(lot, calendar)[1]


def is_lacking(lot, calendar, thing):
    """Whether thing is a tuple of stretches such as lacking returns."""
    shortages = _shortages(lot, calendar)
    if not isinstance(thing, tuple) or not all([is_stretch(hours_of(lot), part) for part in thing]):
        return False
    if not all([early[1] < late[0] for early, late in zip(thing, thing[1:])]):
        return False
    return sum([shortages[stretch] for stretch in thing]) == undone(lot, calendar)


def doing(lot, calendar):
    """The DOING in which each hand does what must end first, of this what may begin first."""
    need_fit(lot, calendar)
    left = dict(with_tuples(lot[1]))
    rows = []
    for hour, hands in enumerate(calendar):
        row = _row_of_hour(left, hour, hands)
        for window, many in row:
            left[window] -= many
        rows.append(row)
    return tuple(rows)


def _row_of_hour(left, hour, hands):
    """What so many hands of this hour do of the work that is left of each window."""
    windows = [window for window in left if window[0] <= hour <= window[1]]
    row = []
    free = hands
    for window in sorted(windows, key=lambda stretch: (stretch[1], stretch[0])):
        many = min(free, left[window])
        free -= many
        if many > 0:
            row.append((window, many))
    return tuple(sorted(row))


def _is_done_errand(works, hour, thing):
    """Whether thing is a pair (window, many) for the row of this hour; works has the work of each window."""
    if not isinstance(thing, tuple) or len(thing) != 2:
        return False
    window, many = thing
    if not is_number_pair(window) or not is_number(many) or many < 1:
        return False
    return window in works and window[0] <= hour <= window[1]


def _is_row(works, hour, hands, thing):
    """Whether thing is what a DOING may have for this hour with so many hands."""
    if not isinstance(thing, tuple) or not all([_is_done_errand(works, hour, part) for part in thing]):
        return False
    windows = [window for window, _ in thing]
    if not all([early < late for early, late in zip(windows, windows[1:])]):
        return False
    return sum([many for _, many in thing]) <= hands


def is_doing(lot, calendar, thing):
    """Whether thing is a DOING of the LOT by the calendar."""
    need_fit(lot, calendar)
    if not isinstance(thing, tuple) or len(thing) != hours_of(lot):
        return False
    works = dict(with_tuples(lot[1]))
    if not all([_is_row(works, hour, calendar[hour], row) for hour, row in enumerate(thing)]):
        return False
    return all([many <= works[window] for window, many in _done_of_each(thing).items()])


def _done_of_each(rows):
    """How much is done, by these rows, of the errand with each window."""
    done = {}
    for row in with_tuples(rows):
        for window, many in row:
            done[window] = done.get(window, 0) + many
    return done


def done_by(rows):
    """How much work is done by this DOING."""
    return sum([many for row in rows for _, many in row])


def left_by(lot, rows):
    """The LOT of the work that this DOING leaves."""
    done = _done_of_each(rows)
    return made_lot(hours_of(lot), [(window, work - done.get(window, 0)) for window, work in with_tuples(lot[1])])


def helpful(lot, calendar):
    """The set of the hours in which one hand more would leave less undone."""
    least = undone(lot, calendar)
    more = [undone(lot, changed_at(calendar, hour, 1)) for hour in range(hours_of(lot))]
    return tuple([hour for hour, number in enumerate(more) if number < least])
