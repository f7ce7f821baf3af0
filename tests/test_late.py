"""Promise [10]: lateness, if the hours go on behind the last one."""

import functools
import itertools
import random
import unittest

from anyhands import late
from anyhands.calendars import is_done, undone
from anyhands.errors import Unfit, Unlike
from anyhands.late import (
    done_late, finish, is_later_calendar, late_stretches, later_calendar, lateness, least_after, longer, never_later,
)
from anyhands.lots import all_work, is_lot, times_over
from tests.support import (
    BIG, JUNK, all_fit, asked_by_hours, check_error, check_same, check_thing, check_value, grid, hours_in, lots_of_work,
    nearly, nested, pieces_of, plain_never_more, run_examples, small_lots, some_lot, stretches, written_as,
)

EXAMPLES = """
    >>> lot = (3, (((0, 0), 2), ((0, 1), 3), ((1, 2), 2)))
    >>> lateness(lot, (2, 3, 2), 0), lateness(lot, (2, 2, 2), 1), lateness(lot, (2, 2, 2), 0), lateness(lot, (0, 0, 0), 2), lateness((1, ()), (0,), 0)
    (0, 1, None, 4, 0)
    >>> late_stretches(lot, (2, 3, 2), 0), late_stretches(lot, (2, 2, 2), 1), late_stretches(lot, (2, 2, 2), 0), late_stretches(lot, (0, 0, 0), 2)
    ((), ((0, 1), (0, 2)), ((0, 2),), ((0, 1), (0, 2)))
    >>> done_late(lot, (2, 2, 2), 1, 0), done_late(lot, (2, 2, 2), 1, 1), done_late(lot, (2, 2, 2), 0, 10 ** 40)
    (False, True, False)
    >>> finish(lot, (2, 2, 2), 1), finish(lot, (4, 3, 0), 0), finish(lot, (7, 1, 0), 0), finish(lot, (9, 1, 0), 1), finish((2, ()), (1, 1), 0)
    (3, 1, None, 3, -1)
    >>> least_after(lot, (2, 2, 2), 1), least_after(lot, (2, 2, 2), 0), least_after(lot, (0, 0, 0), 4), least_after(lot, (2, 3, 2), 0)
    (1, None, 2, 0)
    >>> longer((2, (((0, 0), 4), ((0, 1), 1))), 1), longer(lot, 0) == lot
    ((3, (((0, 1), 4), ((0, 2), 1))), True)
    >>> slow, quick = (2, (((0, 0), 2),)), (2, (((0, 0), 1), ((0, 1), 9)))
    >>> never_later(slow, quick), never_later((2, (((0, 1), 9),)), quick), is_later_calendar(slow, quick, ((1, 9), 0)), is_later_calendar(slow, quick, ((0, 1), 1)), later_calendar(quick, quick)
    (False, True, True, False, None)
    >>> lateness(lot, (1, 1), 1)
    raises Unfit()
"""

LOT = (3, (((0, 0), 2), ((0, 1), 3), ((1, 2), 2)))
NONE = (3, ())
SLOW, QUICK = (2, (((0, 0), 2),)), (2, (((0, 0), 1), ((0, 1), 9)))
FULL = (8, tuple(((first, last), BIG - 8 * first - last) for first in range(8) for last in range(first, 8)))
WITH_AFTER = (lateness, late_stretches, finish)
OTHER_HOURS = ((1, ()), (2, (((0, 1), 1),)), (4, LOT[1]), (8, ()))
WRONG_CALENDARS = ((), (2, 2), (2, 2, 2, 2), (0,) * 8, (9,))
ABOVE_ALL = 10 ** 9


def small_cases():
    """LOTs, calendars and hands after, all that are small in one way or another."""
    for hours, lots, most, after in ((1, small_lots(1, 4), 4, 4), (2, small_lots(2, 2), 2, 2),
                                     (3, small_lots(3, 1), 1, 2), (3, lots_of_work(3, 2), 2, 3),
                                     (4, lots_of_work(4, 2), 1, 1)):
        for lot in lots:
            for calendar in grid(hours, most):
                for many in range(after + 1):
                    yield lot, calendar, many


def fits_late(lot, calendar, after, late):
    """Whether all pieces can be done if each window is so much longer, by a plain search."""
    pieces = tuple((first, last + late) for first, last in pieces_of(lot))
    return all_fit(pieces, calendar + (after,) * late)


def plain_lateness(lot, calendar, after):
    """The least number that fits; ABOVE_ALL if there is none."""
    # So late each window has all hours that can be of use.
    enough = lot[0] + all_work(lot)
    found = [late for late in range(enough + 1) if fits_late(lot, calendar, after, late)]
    return min(found, default=ABOVE_ALL)


def hands_to(calendar, after, first, last):
    """The hands of the hours from first to last, those behind the calendar too."""
    return sum(calendar[hour] if hour < len(calendar) else after for hour in range(first, last + 1))


def due_first(lot, calendar, after, second):
    """By how many hours it is late, at the most, to do always what is due first; ABOVE_ALL if it is never all done.

    second tells which of several that are due together is done first.
    """
    left = list(pieces_of(lot))
    worst = 0
    for hour in range(lot[0] + all_work(lot) + 1):
        for _ in range(calendar[hour] if hour < lot[0] else after):
            begun = [window for window in left if window[0] <= hour]
            if begun:
                window = min(begun, key=lambda own: (own[1], second * own[0]))
                left.remove(window)
                worst = max(worst, hour - window[1])
    return worst if not left else ABOVE_ALL


@functools.cache
def latenesses(lot, most, after):
    """The lateness by each small calendar and number after, that of none being ABOVE_ALL."""
    pairs = itertools.product(grid(lot[0], most), range(after + 1))
    told = [lateness(lot, calendar, many) for calendar, many in pairs]
    return [ABOVE_ALL if number is None else number for number in told]


class Examples(unittest.TestCase):

    def test_those_of_the_document(self):
        run_examples(self, EXAMPLES, vars(late))


class ByPlainSearch(unittest.TestCase):

    def test_lateness(self):
        for lot, calendar, after in small_cases():
            told = lateness(lot, calendar, after)
            expected = plain_lateness(lot, calendar, after)
            self.assertEqual(told, None if expected == ABOVE_ALL else expected, (lot, calendar, after))
            if told is None:
                self.assertEqual(after, 0)

    def test_done_late(self):
        for lot, calendar, after in small_cases():
            if all_work(lot) > 3:
                continue
            for late_by in range(5):
                told = done_late(lot, calendar, after, late_by)
                self.assertIs(told, fits_late(lot, calendar, after, late_by), (lot, calendar, after, late_by))

    def test_what_is_due_first_is_never_later(self):
        for lot, calendar, after in small_cases():
            told = lateness(lot, calendar, after)
            for second in (1, -1):
                self.assertEqual(due_first(lot, calendar, after, second), ABOVE_ALL if told is None else told)

    def test_late_stretches(self):
        for lot, calendar, after in small_cases():
            told = lateness(lot, calendar, after)
            # Far behind all hours the sum grows no more, or it is enough.
            beyond = lot[0] + all_work(lot) if told is None else told - 1
            expected = []
            for first, last in stretches(lot[0]):
                asked = asked_by_hours(lot, hours_in((first, last)))
                if asked > hands_to(calendar, after, first, last + beyond):
                    expected.append((first, last))
            self.assertEqual(late_stretches(lot, calendar, after), () if told == 0 else tuple(expected))

    def test_done_exactly_with_hands_for_each_stretch(self):
        for lot, calendar, after in small_cases():
            for late_by in range(3):
                enough = all(asked_by_hours(lot, hours_in((first, last)))
                             <= hands_to(calendar, after, first, last + late_by) for first, last in stretches(lot[0]))
                self.assertIs(done_late(lot, calendar, after, late_by), enough)

    def test_finish(self):
        for lot, calendar, after in small_cases():
            pieces = pieces_of(lot)
            found = []
            for hour in range(-1, lot[0] + len(pieces) + 1):
                row = calendar + (after,) * max(0, hour + 1 - lot[0])
                endless = tuple((first, hour) for first, _ in pieces)
                if all_fit(endless, row):
                    found.append(hour)
            self.assertEqual(finish(lot, calendar, after), min(found, default=None), (lot, calendar, after))

    def test_least_after_just_reaches(self):
        for hours, lots, most in ((1, small_lots(1, 5), 4), (2, small_lots(2, 2), 2), (3, small_lots(3, 1), 1)):
            for lot, calendar, late_by in itertools.product(lots, grid(hours, most), range(4)):
                found = [many for many in range(all_work(lot) + 1) if done_late(lot, calendar, many, late_by)]
                least = least_after(lot, calendar, late_by)
                self.assertEqual(least, min(found, default=None))
                if least is None:
                    self.assertIs(done_late(lot, calendar, BIG, late_by), False)
                else:
                    self.assertIs(done_late(lot, calendar, least, late_by), True)

    def test_longer(self):
        for hours in (1, 2, 3):
            for lot in small_lots(hours, 1):
                for late_by in range(9 - hours):
                    told = longer(lot, late_by)
                    self.assertEqual(told, (hours + late_by, tuple(((first, last + late_by), work)
                                                                   for (first, last), work in lot[1])))
                    self.assertTrue(is_lot(told))

    def test_late_is_done_with_longer_windows(self):
        for lot, calendar, after in small_cases():
            for late_by in range(3):
                wide = calendar + (after,) * late_by
                self.assertIs(done_late(lot, calendar, after, late_by), is_done(longer(lot, late_by), wide))


class NeverLater(unittest.TestCase):

    def pairs(self):
        """Pairs of small LOTs, with hands and hands after enough to tell one from the other."""
        for lots, most, after in ((small_lots(1, 4), 5, 2), (small_lots(2, 2), 6, 2), (small_lots(3, 1), 4, 1),
                                  (lots_of_work(4, 2), 2, 1)):
            kept = list(lots)
            for one, other in itertools.product(kept, repeat=2):
                yield one, other, most, after

    def test_never_later_for_all_small_calendars(self):
        for one, other, most, after in self.pairs():
            rows = zip(latenesses(one, most, after), latenesses(other, most, after))
            told = never_later(one, other)
            self.assertIs(told, all(own <= its for own, its in rows), (one, other))
            self.assertIs(told, plain_never_more(one, other))

    def test_later_calendar(self):
        for one, other, _, _ in self.pairs():
            pair = later_calendar(one, other)
            if plain_never_more(one, other):
                self.assertIsNone(pair)
                continue
            self.assertTrue(written_as(((0,) * one[0], 0), pair))
            calendar, after = pair
            self.assertTrue(min(calendar) >= 0 <= after)
            own, its = plain_lateness(one, calendar, after), plain_lateness(other, calendar, after)
            self.assertGreater(own, its)
            self.assertIs(is_later_calendar(one, other, pair), True)
            self.assertIs(is_later_calendar(other, one, pair), False)

    def test_is_later_calendar(self):
        kept = [lot for at, lot in enumerate(small_lots(3, 1)) if at % 6 == 1]
        pairs = list(itertools.product(grid(3, 2), range(3)))
        for one, other in itertools.product(kept, repeat=2):
            for pair, own, its in zip(pairs, latenesses(one, 2, 2), latenesses(other, 2, 2)):
                self.assertIs(is_later_calendar(one, other, pair), own > its)


class Edges(unittest.TestCase):

    def test_one_hour(self):
        for work, hands, after in itertools.product((0, 1, 5, BIG), (0, 1, 5, BIG), (0, 1, 3, BIG)):
            lot = (1, (((0, 0), work),) if work else ())
            left = max(0, work - hands)
            expected = 0 if left == 0 else None if after == 0 else (left + after - 1) // after
            values = {"lot": lot, "calendar": (hands,), "after": after}
            check_value(self, lateness, values, expected)
            check_value(self, late_stretches, values, () if expected == 0 else ((0, 0),))
            check_value(self, finish, values, -1 if work == 0 else expected)
            for late_by in (0, 1, 2, BIG):
                told = expected is not None and expected <= late_by
                check_value(self, done_late, {**values, "late": late_by}, told)
                least = 0 if left == 0 else None if late_by == 0 else (left + late_by - 1) // late_by
                check_value(self, least_after, {"lot": lot, "calendar": (hands,), "late": late_by}, least)

    def test_no_errands(self):
        for hours in (1, 3, 8):
            for hands, after in itertools.product((0, 7), (0, 2)):
                values = {"lot": (hours, ()), "calendar": (hands,) * hours, "after": after}
                check_value(self, lateness, values, 0)
                check_value(self, late_stretches, values, ())
                check_value(self, finish, values, -1)
                check_value(self, done_late, {**values, "late": 0}, True)
                check_value(self, least_after, {"lot": (hours, ()), "calendar": (hands,) * hours, "late": 0}, 0)
        check_value(self, longer, {"lot": (1, ()), "late": 7}, (8, ()))
        check_value(self, longer, {"lot": (8, ()), "late": 0}, (8, ()))
        check_value(self, never_later, {"one": NONE, "other": LOT}, True)
        check_value(self, never_later, {"one": LOT, "other": NONE}, False)
        check_value(self, later_calendar, {"one": NONE, "other": NONE}, None)

    def test_no_hands(self):
        nobody = {"lot": LOT, "calendar": (0, 0, 0)}
        check_value(self, lateness, {**nobody, "after": 0}, None)
        check_value(self, late_stretches, {**nobody, "after": 0}, ((0, 0), (0, 1), (0, 2), (1, 2)))
        check_value(self, finish, {**nobody, "after": 0}, None)
        check_value(self, done_late, {**nobody, "after": 0, "late": BIG}, False)
        check_value(self, lateness, {**nobody, "after": 7}, 3)
        check_value(self, finish, {**nobody, "after": 7}, 3)
        check_value(self, finish, {**nobody, "after": 6}, 4)
        check_value(self, finish, {**nobody, "after": 1}, 9)
        check_value(self, least_after, {**nobody, "late": 0}, None)
        check_value(self, least_after, {**nobody, "late": 2}, None)
        check_value(self, least_after, {**nobody, "late": 3}, 3)
        check_value(self, least_after, {**nobody, "late": BIG}, 1)

    def test_late_at_its_limits(self):
        enough = {"lot": LOT, "calendar": (2, 3, 2)}
        check_value(self, done_late, {**enough, "after": 0, "late": 0}, True)
        check_value(self, done_late, {**enough, "after": 0, "late": BIG}, True)
        few = {"lot": LOT, "calendar": (2, 2, 2)}
        check_value(self, done_late, {**few, "after": 1, "late": BIG}, True)
        check_value(self, least_after, {**few, "late": BIG}, 1)
        check_value(self, least_after, {**enough, "late": BIG}, 0)

    def test_work_that_waits_for_its_hour(self):
        values = {"lot": (3, (((2, 2), 1),)), "calendar": (9, 9, 0)}
        check_value(self, lateness, {**values, "after": 0}, None)
        check_value(self, late_stretches, {**values, "after": 0}, ((2, 2),))
        check_value(self, finish, {**values, "after": 2}, 3)
        check_value(self, finish, {"lot": (3, (((0, 0), 1),)), "calendar": (9, 9, 0), "after": 0}, 0)
        check_value(self, finish, {"lot": (3, (((1, 1), 1),)), "calendar": (9, 0, 1), "after": 0}, 2)

    def test_great_numbers(self):
        work = sum(number for _, number in FULL[1])
        values = {"lot": FULL, "calendar": (0,) * 8}
        check_value(self, lateness, {**values, "after": 1}, work)
        check_value(self, finish, {**values, "after": 1}, 7 + work)
        check_value(self, lateness, {**values, "after": work}, 8)
        check_value(self, least_after, {**values, "late": 8}, (work + 7) // 8)
        check_value(self, done_late, {**values, "after": 1, "late": work - 1}, False)
        check_value(self, done_late, {**values, "after": 1, "late": work}, True)
        check_value(self, late_stretches, {**values, "after": 1}, ((0, 7),))
        great = times_over(FULL, BIG * BIG)
        late_by = lateness(great, (1,) * 8, 1)
        self.assertEqual(late_by, BIG * BIG * work - 8)
        self.assertIs(done_late(great, (1,) * 8, 1, late_by), True)
        self.assertIs(done_late(great, (1,) * 8, 1, late_by - 1), False)
        self.assertEqual(least_after(great, (1,) * 8, late_by), 1)
        self.assertEqual(longer((4, (((0, 3), BIG * BIG),)), 4), (8, (((0, 7), BIG * BIG),)))

    def test_eight_hours_by_chance(self):
        chance = random.Random(10)
        for _ in range(300):
            hours = chance.randint(4, 8)
            lot = some_lot(chance, hours, chance.randint(1, 9), 3)
            calendar = tuple(chance.randint(0, 4) for _ in range(hours))
            for after in (0, 1, 4):
                told = lateness(lot, calendar, after)
                self.assertEqual(due_first(lot, calendar, after, 1), ABOVE_ALL if told is None else told)
                self.assertEqual(told == 0, undone(lot, calendar) == 0)

    def test_forms(self):
        chance = random.Random(11)
        for lot in (LOT, NONE, (3, (((2, 2), 4),))):
            for calendar, after in (((2, 2, 2), 1), ((0, 0, 0), 0), ((0, 9, 0), 2)):
                for function in WITH_AFTER:
                    check_same(self, function, {"lot": lot, "calendar": calendar, "after": after})
                check_same(self, done_late, {"lot": lot, "calendar": calendar, "after": after, "late": 1})
                check_same(self, least_after, {"lot": lot, "calendar": calendar, "late": 1})
            check_same(self, longer, {"lot": lot, "late": 2})
        for _ in range(10):
            one, other = (some_lot(chance, 3, 3) for _ in range(2))
            check_same(self, never_later, {"one": one, "other": other})
            check_same(self, later_calendar, {"one": one, "other": other})


class Things(unittest.TestCase):

    def fits(self, thing, hours):
        return written_as(((0,) * hours, 0), thing) and min(thing[0]) >= 0 <= thing[1]

    def test_nearly_pairs(self):
        for one, other, pair in ((SLOW, QUICK, ((1, 9), 0)), (SLOW, QUICK, ((0, 0), 10)), (LOT, NONE, ((0, 0, 0), 0)),
                                 ((1, (((0, 0), 4),)), (1, (((0, 0), 3),)), ((0,), 3))):
            for thing in nearly(pair):
                with self.subTest(one=one, other=other, thing=thing):
                    expected = False
                    if self.fits(thing, one[0]) and max(*thing[0], thing[1]) < 99:
                        own, its = (plain_lateness(lot, *thing) for lot in (one, other))
                        expected = own > its
                    self.assertIs(is_later_calendar(one, other, thing), expected)

    def test_others(self):
        values = {"one": SLOW, "other": QUICK}
        check_thing(self, is_later_calendar, values, ((1, 9), 0), True)
        check_thing(self, is_later_calendar, values, ((1, BIG ** 3), 0), True)
        check_thing(self, is_later_calendar, values, ((1, 9), BIG ** 3), True)
        check_thing(self, is_later_calendar, values, ((2, 9), 0), False)
        for thing in (*JUNK, [(1, 9), 0], ([1, 9], 0), ((1, 9),), ((1, 9), 0, 0), ((1, 9, 9), 0), ((1,), 0),
                      (0, (1, 9)), ((1, 9), None), ((1, 9), False), ((1, 9), "0"), ((True, 9), 0), ((1, 9), -1),
                      ((1, -1), 0), ((-1, 9), 0), (1, 9), (1, 9, 0), ((1, 9), (0,)), ((9, 1), 0), ("19", 0)):
            check_thing(self, is_later_calendar, values, thing, False)
        for depth in range(1, 11):
            self.assertIs(is_later_calendar(SLOW, QUICK, nested(((1, 9), 0), depth)), False)

    def test_other_must_have_a_lateness(self):
        # Both are never done, or one is done only when other is, too.
        check_thing(self, is_later_calendar, {"one": SLOW, "other": QUICK}, ((0, 0), 0), False)
        check_thing(self, is_later_calendar, {"one": QUICK, "other": SLOW}, ((2, 0), 0), True)
        check_thing(self, is_later_calendar, {"one": QUICK, "other": SLOW}, ((0, 0), 1), True)
        check_thing(self, is_later_calendar, {"one": QUICK, "other": QUICK}, ((0, 0), 1), False)


class Errors(unittest.TestCase):

    def test_unfit(self):
        for calendar in WRONG_CALENDARS:
            for lot in (LOT, NONE):
                for function in WITH_AFTER:
                    check_error(self, function, {"lot": lot, "calendar": calendar, "after": 0}, Unfit())
                for late_by in (0, BIG):
                    check_error(self, done_late, {"lot": lot, "calendar": calendar, "after": 1, "late": late_by},
                                Unfit())
                    check_error(self, least_after, {"lot": lot, "calendar": calendar, "late": late_by}, Unfit())

    def test_unlike(self):
        for other in OTHER_HOURS:
            for one, its in ((LOT, other), (other, LOT), (NONE, other), (other, NONE)):
                for function in (never_later, later_calendar):
                    check_error(self, function, {"one": one, "other": its}, Unlike())
                for thing in (*JUNK, ((0,) * one[0], 0), ((0,) * its[0], 0)):
                    check_error(self, is_later_calendar, {"one": one, "other": its, "thing": thing}, Unlike())


if __name__ == "__main__":
    unittest.main()
