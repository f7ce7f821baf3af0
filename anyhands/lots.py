"""LOTs (T, errands): errands is an ascending tuple of pairs (window, work)."""

from anyhands.checks import has_stretch, need_stretch
from anyhands.errors import NoHour, Unlike
from anyhands.plain import is_number, is_number_pair, with_tuples


def _is_errand(hours, thing):
    """Whether thing is a pair (window, work) for a LOT of so many hours."""
    if not isinstance(thing, tuple) or len(thing) != 2:
        return False
    window, work = thing
    return is_number_pair(window) and has_stretch(hours, window[0], window[1]) and is_number(work) and work >= 1


def is_lot(thing):
    """Whether thing is a LOT."""
    if not isinstance(thing, tuple) or len(thing) != 2:
        return False
    hours, errands = thing
    if not is_number(hours) or hours < 1 or not isinstance(errands, tuple):
        return False
    if not all([_is_errand(hours, errand) for errand in errands]):
        return False
    windows = [window for window, _ in errands]
    return all([early < late for early, late in zip(windows, windows[1:])])


def made_lot(hours, errands):
    """The LOT in which these errands are added up; raises NoStretch for the first window that is none."""
    works = {}
    for window, work in with_tuples(errands):
        first, last = window
        need_stretch(hours, first, last)
        works[window] = works.get(window, 0) + work
    return hours, tuple([(window, works[window]) for window in sorted(works) if works[window] > 0])


def hours_of(lot):
    """How many hours there are."""
    return lot[0]


def all_work(lot):
    """How much work there is."""
    return sum([work for _, work in lot[1]])


def work_in(lot, first, last):
    """How much work has just the window (first, last); raises NoStretch if there is no such stretch."""
    hours, errands = with_tuples(lot)
    need_stretch(hours, first, last)
    return sum([work for window, work in errands if window == (first, last)])


def behind(lot):
    """The LOT of the same errands if the hours are counted from the last one on."""
    hours, errands = lot
    return made_lot(hours, [((hours - 1 - last, hours - 1 - first), work) for (first, last), work in errands])


def joined(lot, hour):
    """The LOT in which this hour and the next one are one; raises NoHour if there are not both."""
    hours, errands = lot
    if not 0 <= hour < hours - 1:
        raise NoHour(hour)
    renumbered = [((_joined_hour(first, hour), _joined_hour(last, hour)), work) for (first, last), work in errands]
    return made_lot(hours - 1, renumbered)


def _joined_hour(old, hour):
    """The number of the hour old when hour and the next one are one."""
    return old if old <= hour else old - 1


def put_in(lot, hour):
    """The LOT with a further hour, of this number; raises NoHour if it is not from 0 to T."""
    hours, errands = lot
    if not 0 <= hour <= hours:
        raise NoHour(hour)
    renumbered = [((_shifted_hour(first, hour), _shifted_hour(last, hour)), work) for (first, last), work in errands]
    return made_lot(hours + 1, renumbered)


def _shifted_hour(old, hour):
    """The number of the hour old when a further one gets the number hour."""
    return old if old < hour else old + 1


def added(one, other):
    """The LOT of all errands of both; raises Unlike if they have not as many hours."""
    if one[0] != other[0]:
        raise Unlike()
    return made_lot(one[0], [*one[1], *other[1]])


def times_over(lot, many):
    """The LOT with all work so many times."""
    hours, errands = lot
    return made_lot(hours, [(window, work * many) for window, work in errands])
