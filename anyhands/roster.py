"""A roster: work that is open, finished and missed while the hours go by, and the hands of each hour."""

from anyhands.calendars import doing, full_stretches, hands_in, is_done, left_by, short_stretches, undone
from anyhands.checks import need_stretch
from anyhands.errors import NoHour, NothingDone, TooFew, Unfit
from anyhands.hands import slack
from anyhands.lots import added, made_lot, work_in
from anyhands.plain import changed_at
from anyhands.tables import asked


class Roster:
    """Open, finished and missed work, a calendar, and the hour now that comes next; deeds can be taken back."""

    def __init__(self, hours):
        self._hours = hours
        self._now = 0
        self._calendar = (0,) * hours
        self._lot = (hours, ())
        self._finished = (hours, ())
        self._missed = (hours, ())
        # What there was ahead of each deed; all of it is tuples, which nobody changes.
        self._past = []

    def __eq__(self, other):
        return (isinstance(other, Roster) and self._now == other._now and self._calendar == other._calendar
                and self._lot == other._lot and self._finished == other._finished and self._missed == other._missed)

    def __len__(self):
        return len(self._past)

    def _keep(self):
        """Keep all that a deed may change."""
        self._past.append((self._now, self._calendar, self._lot, self._finished, self._missed))

    def _need_coming_hour(self, hour):
        """Raise NoHour if there is no such hour, or if it has gone by."""
        if not self._now <= hour < self._hours:
            raise NoHour(hour)

    def _need_coming_stretch(self, first, last):
        """Raise NoStretch if there is no such stretch, then Unfit if all of it has gone by."""
        need_stretch(self._hours, first, last)
        if last < self._now:
            raise Unfit()

    def add(self, first, last, work):
        """So much open work more with the window (first, last)."""
        self._need_coming_stretch(first, last)
        self._keep()
        self._lot = added(self._lot, (self._hours, (((first, last), work),)))

    def remove(self, first, last, work):
        """So much open work less with the window (first, last)."""
        if work_in(self._lot, first, last) < work:
            raise TooFew(first, last)
        self._keep()
        left = [(window, own - work if window == (first, last) else own) for window, own in self._lot[1]]
        self._lot = made_lot(self._hours, left)

    def hire(self, hour, hands):
        """So many hands more in this hour."""
        self._need_coming_hour(hour)
        self._keep()
        self._calendar = changed_at(self._calendar, hour, hands)

    def fire(self, hour, hands):
        """So many hands fewer in this hour."""
        self._need_coming_hour(hour)
        if self._calendar[hour] < hands:
            raise TooFew(hour, hour)
        self._keep()
        self._calendar = changed_at(self._calendar, hour, -hands)

    def pass_hour(self):
        """The hour now goes by: its hands finish what they can, and what is left of the work due in it is missed."""
        now = self._now
        self._need_coming_hour(now)
        alone = [hands if hour == now else 0 for hour, hands in enumerate(self._calendar)]
        rows = doing(self._lot, alone)
        left = left_by(self._lot, rows)[1]
        self._keep()
        self._finished = added(self._finished, (self._hours, rows[now]))
        self._missed = added(self._missed, (self._hours, [errand for errand in left if errand[0][1] == now]))
        self._lot = made_lot(self._hours, [errand for errand in left if errand[0][1] > now])
        self._now = now + 1

    def back(self):
        """Take back the last deed that is not taken back."""
        if not self._past:
            raise NothingDone()
        self._now, self._calendar, self._lot, self._finished, self._missed = self._past.pop()

    def twin(self):
        """An equal Roster, with the same deeds to take back."""
        same = Roster(self._hours)
        same._now = self._now
        same._calendar = self._calendar
        same._lot = self._lot
        same._finished = self._finished
        same._missed = self._missed
        same._past = list(self._past)
        return same

    def hours(self):
        """How many hours there are."""
        return self._hours

    def now(self):
        """The hour that comes next; as many as there are hours if all have gone by."""
        return self._now

    def lot(self):
        """The LOT of the open work."""
        return self._lot

    def finished(self):
        """The LOT of the finished work."""
        return self._finished

    def missed(self):
        """The LOT of the missed work."""
        return self._missed

    def calendar(self):
        """The calendar, with the hands of the hours that have gone by."""
        return self._calendar

    def ahead(self):
        """The LOT of the open work in which no window begins ahead of now."""
        return made_lot(self._hours, [((max(first, self._now), last), work) for (first, last), work in self._lot[1]])

    def is_safe(self):
        """Whether all open work can still be finished."""
        return is_done(self.ahead(), self._calendar)

    def will_miss(self):
        """How much of the open work will be missed at the least."""
        return undone(self.ahead(), self._calendar)

    def first_short(self):
        """The least coming stretch that has fewer hands than it asks; None if there is none."""
        short = [stretch for stretch, _ in short_stretches(self.ahead(), self._calendar) if stretch[0] >= self._now]
        return min(short, default=None)

    def tight(self):
        """The set of the coming stretches that ask something, and have just as many hands."""
        lot = self.ahead()
        full = [(first, last) for first, last in full_stretches(lot, self._calendar) if first >= self._now]
        return tuple([(first, last) for first, last in full if asked(lot, first, last) > 0])

    def room(self, first, last):
        """How much more work with this window can be put in such that all can be finished; None if it cannot now."""
        self._need_coming_stretch(first, last)
        if not self.is_safe():
            return None
        lot = self.ahead()
        begins = list(range(self._now, max(first, self._now) + 1))
        stretches = [(begin, end) for begin in begins for end in range(last, self._hours)]
        return min([hands_in(self._calendar, begin, end) - asked(lot, begin, end) for begin, end in stretches])

    def spare(self, hour):
        """How many hands of this hour can be put out such that all can be finished; None if it cannot now."""
        self._need_coming_hour(hour)
        free = slack(self.ahead(), self._calendar)
        return None if free is None else free[hour]
