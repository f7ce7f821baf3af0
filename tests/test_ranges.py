"""Promise [12]: hands known within ranges."""

import itertools
import random
import unittest

from anyhands import ranges as ranges_file
from anyhands.calendars import undone
from anyhands.errors import NoStretch, Unfit, Unlike
from anyhands.lots import all_work, times_over
from anyhands.order import never_more
from anyhands.ranges import (
    against_within, calendar_within, can_be_done, is_against_within, is_ranges, is_within, least_hands_within,
    never_more_within, surely_done, undone_within,
)
from tests.support import (
    BIG, JUNK, all_fit, asked_by_hours, check_error, check_same, check_thing, check_value, hours_in, least_left,
    lots_of_work, nearly, nested, pieces_of, run_examples, small_lots, some_lot, stretches, written_as,
)

EXAMPLES = """
    >>> lot, loose = (4, (((0, 1), 3), ((0, 3), 2), ((1, 2), 2), ((2, 3), 1))), (4, (((0, 3), 8),))
    >>> ranges, wide = ((0, 2), (1, 3), (0, 4), (0, 1)), ((0, 2), (1, 3), (0, 9), (0, 1))
    >>> is_ranges(4, ranges), is_ranges(3, ranges), is_ranges(1, ((3, 2),)), is_within(ranges, (2, 3, 4, 1)), is_within(ranges, (2, 0, 4, 1))
    (True, False, False, True, False)
    >>> can_be_done(lot, ranges), surely_done(lot, ranges), undone_within(lot, ranges), can_be_done(lot, ((0, 1),) * 4)
    (True, False, (0, 7), False)
    >>> [least_hands_within(lot, ranges, first, last) for first, last in ((2, 3), (0, 1), (0, 3), (3, 3))], least_hands_within(lot, ((0, 1),) * 4, 0, 0)
    ([3, 3, 8, 0], None)
    >>> calendar_within(lot, ((0, 2), (1, 3), (2, 2), (1, 1)), 2, 3), calendar_within(lot, ((0, 1),) * 4, 0, 0)
    ((2, 3, 2, 1), None)
    >>> never_more_within(lot, loose, ranges), against_within(lot, loose, ranges), never_more_within(lot, loose, wide), is_against_within(lot, loose, wide, against_within(lot, loose, wide))
    (True, None, False, True)
    >>> is_against_within(lot, loose, wide, (0, 2, 6, 0)), is_against_within(lot, loose, wide, (0, 3, 6, 0)), never_more_within(lot, loose, ((0, 0),) * 4)
    (True, False, True)
    >>> can_be_done(lot, ((0, 9),))
    raises Unfit()
    >>> never_more_within(lot, (3, ()), ranges)
    raises Unlike()
    >>> least_hands_within(lot, ranges, 2, 4)
    raises NoStretch(first=2, last=4)
"""

LOT, LOOSE = (4, (((0, 1), 3), ((0, 3), 2), ((1, 2), 2), ((2, 3), 1))), (4, (((0, 3), 8),))
RANGES, WIDE = ((0, 2), (1, 3), (0, 4), (0, 1)), ((0, 2), (1, 3), (0, 9), (0, 1))
NARROW = ((0, 1),) * 4
NONE = (4, ())
FULL = (8, tuple(((first, last), BIG - 8 * first - last) for first in range(8) for last in range(first, 8)))
WITH_LOT = (can_be_done, surely_done, undone_within)
WITH_STRETCH = (least_hands_within, calendar_within)
WITH_BOTH = (never_more_within, against_within)
OTHER_HOURS = ((1, ()), (2, (((0, 1), 1),)), (5, LOT[1]), (8, ()))
WRONG_RANGES = ((), ((0, 9),), ((0, 9),) * 3, ((0, 9),) * 5, ((0, 0),) * 8)
WRONG_STRETCHES = ((2, 1), (1, 0), (-1, 0), (-1, 9), (0, 4), (4, 4), (-2, -1), (0, BIG), (-BIG, 0), (BIG, -BIG))


def small_ranges(hours, most):
    """All RANGES of so many hours with numbers up to most."""
    pairs = [(low, high) for low in range(most + 1) for high in range(low, most + 1)]
    return list(itertools.product(pairs, repeat=hours))


def within(ranges):
    """All calendars within."""
    return list(itertools.product(*(range(low, high + 1) for low, high in ranges)))


def does(lot, calendar):
    return all_fit(pieces_of(lot), calendar)


def small_cases():
    """Pairs of a LOT and RANGES that are small in one way or another."""
    for lots, hours, most, step in ((small_lots(1, 4), 1, 5, 1), (small_lots(2, 2), 2, 3, 1),
                                    (small_lots(3, 1), 3, 2, 5), (lots_of_work(4, 2), 4, 1, 1)):
        kept = small_ranges(hours, most)
        for at, lot in enumerate(lots):
            for ranges in kept[at % step::step]:
                yield lot, ranges


def small_pairs():
    """Two LOTs and RANGES that are small in one way or another."""
    for lots, hours, most, step in ((small_lots(1, 3), 1, 4, 1), (small_lots(2, 1), 2, 3, 1),
                                    (small_lots(2, 2), 2, 2, 3), (list(small_lots(3, 1))[::5], 3, 2, 7)):
        kept = small_ranges(hours, most)
        for at, (one, other) in enumerate(itertools.product(list(lots), repeat=2)):
            for ranges in kept[at % step::step]:
                yield one, other, ranges


class Examples(unittest.TestCase):

    def test_those_of_the_document(self):
        run_examples(self, EXAMPLES, vars(ranges_file))


class IsRanges(unittest.TestCase):

    def fits(self, thing, hours):
        return written_as(((0, 0),) * hours, thing) and all(0 <= low <= high for low, high in thing)

    def test_small_ones(self):
        numbers = range(-1, 3)
        pairs = list(itertools.product(numbers, repeat=2))
        for hours in (1, 2):
            for thing in itertools.product(pairs, repeat=hours):
                self.assertIs(is_ranges(hours, thing), self.fits(thing, hours))

    def test_another_kind_or_another_length(self):
        for ranges in (RANGES, ((0, 0),), ((3, 5), (1, 1)), ((1, 2),) * 3):
            check_thing(self, is_ranges, {"hours": len(ranges)}, ranges, True)
            for hours in range(1, 9):
                self.assertIs(is_ranges(hours, ranges), hours == len(ranges))
            for thing in nearly(ranges):
                with self.subTest(thing=thing):
                    self.assertIs(is_ranges(len(ranges), thing), self.fits(thing, len(ranges)))

    def test_others(self):
        for thing in (*JUNK, ((1, 0),), ((0, -1),), ((-1, 1),), ((0,),), ((0, 1, 2),), [(0, 1)], ([0, 1],),
                      ((False, True),), ((0, True),), ((0, None),), (("0", "1"),), ("01",), (0, 1), ((0, 1), (1, 0)),
                      ((0, 1), (0, -1)), (((0, 1),),), ((0, 1), 1), ((0, 1), None)):
            for hours in (1, 2):
                check_thing(self, is_ranges, {"hours": hours}, thing, False)
        for depth in range(1, 11):
            self.assertIs(is_ranges(1, nested(((0, 1),), depth)), False)

    def test_beyond_the_bounds(self):
        self.assertIs(is_ranges(9, ((0, 1),) * 9), True)
        self.assertIs(is_ranges(2, ((0, BIG ** 3), (BIG ** 3, BIG ** 4))), True)
        self.assertIs(is_ranges(1, ((-BIG ** 3, BIG),)), False)
        self.assertIs(is_ranges(1, ((BIG ** 3 + 1, BIG ** 3),)), False)


class IsWithin(unittest.TestCase):

    def test_small_ones(self):
        for ranges in small_ranges(2, 2):
            inside = within(ranges)
            for thing in itertools.product(range(-1, 4), repeat=2):
                self.assertIs(is_within(ranges, thing), thing in inside)

    def test_nearly_calendars(self):
        for ranges, calendar in ((RANGES, (2, 3, 4, 1)), (((0, 0),), (0,)), (((1, 1), (0, 9)), (1, 1)),
                                 (NARROW, (1, 0, 1, 0))):
            check_thing(self, is_within, {"ranges": ranges}, calendar, True)
            for thing in nearly(calendar):
                with self.subTest(ranges=ranges, thing=thing):
                    fits = written_as((0,) * len(ranges), thing)
                    self.assertIs(is_within(ranges, thing),
                                  fits and all(low <= own <= high for (low, high), own in zip(ranges, thing)))

    def test_others(self):
        for thing in (*JUNK, [2, 3, 4, 1], (2, 3, 4), (2, 3, 4, 1, 0), (3, 3, 4, 1), (2, 0, 4, 1), (2, 3, 5, 1),
                      (2, 3, 4, -1), (2, 3, 4, True), (False, 1, 0, 0), (2, 3, 4, None), "2341", ("2", "3", "4", "1"),
                      ((2, 3, 4, 1),)):
            check_thing(self, is_within, {"ranges": RANGES}, thing, False)
        check_thing(self, is_within, {"ranges": ((0, BIG),)}, (BIG,), True)
        check_thing(self, is_within, {"ranges": ((0, BIG),)}, (BIG + 1,), False)
        check_thing(self, is_within, {"ranges": ((0, BIG),)}, (BIG ** 3,), False)
        check_thing(self, is_within, {"ranges": ((0, 1),)}, (True,), False)
        for depth in range(1, 12):
            self.assertIs(is_within(((0, 1),), nested((0,), depth)), False)


class ByPlainSearch(unittest.TestCase):

    def test_done_and_undone(self):
        for lot, ranges in small_cases():
            done = [does(lot, calendar) for calendar in within(ranges)]
            self.assertIs(can_be_done(lot, ranges), any(done))
            self.assertIs(surely_done(lot, ranges), all(done))
            left = [least_left(pieces_of(lot), calendar) for calendar in within(ranges)]
            self.assertEqual(undone_within(lot, ranges), (min(left), max(left)))

    def test_least_hands(self):
        for lot, ranges in small_cases():
            done = [calendar for calendar in within(ranges) if does(lot, calendar)]
            for first, last in stretches(lot[0]):
                numbers = [sum(calendar[first:last + 1]) for calendar in done]
                told = least_hands_within(lot, ranges, first, last)
                self.assertEqual(told, min(numbers, default=None), (lot, ranges, first, last))
                calendar = calendar_within(lot, ranges, first, last)
                if done:
                    self.assertIn(calendar, done)
                    self.assertEqual(sum(calendar[first:last + 1]), told)
                else:
                    self.assertIsNone(calendar)

    def test_never_more_within(self):
        for one, other, ranges in small_pairs():
            against = [calendar for calendar in within(ranges) if does(other, calendar) and not does(one, calendar)]
            self.assertIs(never_more_within(one, other, ranges), not against, (one, other, ranges))
            told = against_within(one, other, ranges)
            if against:
                self.assertIn(told, against)
            else:
                self.assertIsNone(told)
            for calendar in within(ranges):
                self.assertIs(is_against_within(one, other, ranges, calendar), calendar in against)

    def test_never_more_within_by_least_hands(self):
        for one, other, ranges in small_pairs():
            expected = not can_be_done(other, ranges) or all(
                least_hands_within(other, ranges, first, last) >= asked_by_hours(one, hours_in((first, last)))
                for first, last in stretches(one[0]))
            self.assertIs(never_more_within(one, other, ranges), expected)

    def test_never_more_is_never_more_within(self):
        for one, other, ranges in small_pairs():
            if never_more(one, other):
                self.assertIs(never_more_within(one, other, ranges), True)
            wide = ((0, all_work(one) + all_work(other)),) * one[0]
            self.assertIs(never_more_within(one, other, wide), never_more(one, other))

    def test_eight_hours_by_chance(self):
        chance = random.Random(14)
        for _ in range(60):
            hours = chance.randint(5, 8)
            one, other = (some_lot(chance, hours, chance.randint(1, 4)) for _ in range(2))
            lows = [chance.randint(0, 1) for _ in range(hours)]
            ranges = tuple((low, low + chance.randint(0, 1)) for low in lows)
            done = [calendar for calendar in within(ranges) if does(other, calendar)]
            for first, last in stretches(hours):
                numbers = [sum(calendar[first:last + 1]) for calendar in done]
                self.assertEqual(least_hands_within(other, ranges, first, last), min(numbers, default=None))
            against = [calendar for calendar in done if not does(one, calendar)]
            told = against_within(one, other, ranges)
            self.assertTrue(told in against if against else told is None)


class Edges(unittest.TestCase):

    def test_one_hour(self):
        for work, low, more in itertools.product((0, 1, 5, BIG), (0, 1, 5, BIG), (0, 1, 3, BIG)):
            lot, ranges = (1, (((0, 0), work),) if work else ()), ((low, low + more),)
            values = {"lot": lot, "ranges": ranges}
            high = low + more
            check_value(self, can_be_done, values, work <= high)
            check_value(self, surely_done, values, work <= low)
            check_value(self, undone_within, values, (max(0, work - high), max(0, work - low)))
            least = max(work, low) if work <= high else None
            check_value(self, least_hands_within, {**values, "first": 0, "last": 0}, least)
            check_value(self, calendar_within, {**values, "first": 0, "last": 0}, None if least is None else (least,))

    def test_no_errands(self):
        for ranges in (RANGES, WIDE, NARROW, ((0, 0),) * 4):
            values = {"lot": NONE, "ranges": ranges}
            check_value(self, can_be_done, values, True)
            check_value(self, surely_done, values, True)
            check_value(self, undone_within, values, (0, 0))
            for first, last in stretches(4):
                least = sum(low for low, _ in ranges[first:last + 1])
                check_value(self, least_hands_within, {**values, "first": first, "last": last}, least)
            check_value(self, never_more_within, {"one": NONE, "other": LOT, "ranges": ranges}, True)
            check_value(self, against_within, {"one": NONE, "other": LOT, "ranges": ranges}, None)

    def test_one_number_each(self):
        for calendar in ((2, 2, 2, 2), (0, 3, 4, 1), (1, 1, 4, 0), (0, 0, 0, 0)):
            ranges = tuple((own, own) for own in calendar)
            values = {"lot": LOT, "ranges": ranges}
            done = does(LOT, calendar)
            left = least_left(pieces_of(LOT), calendar)
            check_value(self, can_be_done, values, done)
            check_value(self, surely_done, values, done)
            check_value(self, undone_within, values, (left, left))
            check_value(self, calendar_within, {**values, "first": 1, "last": 2}, calendar if done else None)
            against = calendar if does(LOOSE, calendar) and not done else None
            check_value(self, against_within, {"one": LOT, "other": LOOSE, "ranges": ranges}, against)

    def test_none_within_does_it(self):
        for first, last in stretches(4):
            for function in WITH_STRETCH:
                check_value(self, function, {"lot": LOT, "ranges": NARROW, "first": first, "last": last}, None)
        for one in (LOT, LOOSE, NONE, times_over(LOT, BIG)):
            values = {"one": one, "other": LOT, "ranges": NARROW}
            check_value(self, never_more_within, values, True)
            check_value(self, against_within, values, None)
            check_thing(self, is_against_within, values, (1, 1, 1, 1), False)

    def test_great_numbers(self):
        work = all_work(FULL)
        wide, exact = ((0, work),) * 8, tuple((number, number) for number in [BIG * 9] * 8)
        self.assertIs(can_be_done(FULL, wide), True)
        self.assertIs(surely_done(FULL, wide), False)
        self.assertEqual(undone_within(FULL, wide), (0, work))
        self.assertEqual(undone_within(FULL, exact), (0, 0))
        for first, last in stretches(8):
            least = asked_by_hours(FULL, hours_in((first, last)))
            self.assertEqual(least_hands_within(FULL, wide, first, last), least)
            self.assertEqual(sum(calendar_within(FULL, wide, first, last)[first:last + 1]), least)
        more = (8, FULL[1][:-1] + (((7, 7), FULL[1][-1][1] + 1),))
        self.assertIs(never_more_within(FULL, more, wide), True)
        self.assertIs(never_more_within(more, FULL, wide), False)
        self.assertIs(is_against_within(more, FULL, wide, against_within(more, FULL, wide)), True)
        great, vast = times_over(FULL, BIG * BIG), ((0, work * BIG ** 3),) * 8
        self.assertEqual(least_hands_within(great, vast, 0, 7), work * BIG * BIG)
        self.assertEqual(undone(great, calendar_within(great, vast, 2, 5)), 0)
        # What is returned may be more than the bounds, and be handed in again.
        self.assertIs(is_within(vast, calendar_within(great, vast, 2, 5)), True)

    def test_forms(self):
        for ranges in (RANGES, WIDE, NARROW):
            for lot in (LOT, LOOSE, NONE):
                for function in WITH_LOT:
                    check_same(self, function, {"lot": lot, "ranges": ranges})
                for first, last in stretches(4):
                    for function in WITH_STRETCH:
                        check_same(self, function, {"lot": lot, "ranges": ranges, "first": first, "last": last})
            for one, other in itertools.product((LOT, LOOSE, NONE), repeat=2):
                for function in WITH_BOTH:
                    check_same(self, function, {"one": one, "other": other, "ranges": ranges})


class IsAgainstWithin(unittest.TestCase):

    def test_nearly_calendars(self):
        for one, other, ranges, calendar in ((LOT, LOOSE, WIDE, (0, 2, 6, 0)), (LOT, NONE, RANGES, (0, 1, 0, 0)),
                                             ((1, (((0, 0), 4),)), (1, (((0, 0), 1),)), ((0, 9),), (3,))):
            check_thing(self, is_against_within, {"one": one, "other": other, "ranges": ranges}, calendar, True)
            for thing in nearly(calendar):
                with self.subTest(one=one, other=other, thing=thing):
                    fits = written_as((0,) * one[0], thing) and thing in within(ranges)
                    expected = fits and does(other, thing) and not does(one, thing)
                    self.assertIs(is_against_within(one, other, ranges, thing), expected)

    def test_others(self):
        values = {"one": LOT, "other": LOOSE, "ranges": WIDE}
        for thing in (*JUNK, [0, 2, 6, 0], (0, 2, 6), (0, 2, 6, 0, 0), (0, 2, 9, 9), (0, 2, 6, False), (0, 2, 6, None),
                      (0, 0, 9, 0), (0, 3, 6, 0), (0, 2, 5, 0), "0260", (0, 2, BIG ** 3, 0), (-1, 3, 6, 0),
                      ((0, 2, 6, 0),)):
            check_thing(self, is_against_within, values, thing, False)
        check_thing(self, is_against_within, {**values, "ranges": ((0, 2), (1, 3), (0, BIG), (0, 1))}, (0, 2, BIG, 0),
                    True)
        for depth in range(1, 12):
            self.assertIs(is_against_within(LOT, LOOSE, WIDE, nested((0, 2, 6, 0), depth)), False)


class Errors(unittest.TestCase):

    def test_unfit(self):
        for ranges in WRONG_RANGES:
            for lot in (LOT, NONE):
                for function in WITH_LOT:
                    check_error(self, function, {"lot": lot, "ranges": ranges}, Unfit())
                for first, last in ((0, 0), (0, 3), *WRONG_STRETCHES):
                    for function in WITH_STRETCH:
                        check_error(self, function, {"lot": lot, "ranges": ranges, "first": first, "last": last},
                                    Unfit())
                for function in WITH_BOTH:
                    check_error(self, function, {"one": lot, "other": LOOSE, "ranges": ranges}, Unfit())
                for thing in (*JUNK, (0, 2, 6, 0), (0,) * len(ranges)):
                    values = {"one": lot, "other": LOOSE, "ranges": ranges, "thing": thing}
                    check_error(self, is_against_within, values, Unfit())

    def test_no_stretch(self):
        for first, last in WRONG_STRETCHES:
            for lot, ranges in ((LOT, RANGES), (LOT, NARROW), (NONE, RANGES)):
                values = {"lot": lot, "ranges": ranges, "first": first, "last": last}
                for function in WITH_STRETCH:
                    check_error(self, function, values, NoStretch(first, last))

    def test_unlike_ahead_of_unfit(self):
        for other in OTHER_HOURS:
            for one, its in ((LOT, other), (other, LOT), (NONE, other)):
                for ranges in (RANGES, ((0, 1),) * its[0], *WRONG_RANGES):
                    for function in WITH_BOTH:
                        check_error(self, function, {"one": one, "other": its, "ranges": ranges}, Unlike())
                for ranges in (RANGES, ()):
                    for thing in (*JUNK, (0, 2, 6, 0)):
                        values = {"one": one, "other": its, "ranges": ranges, "thing": thing}
                        check_error(self, is_against_within, values, Unlike())


if __name__ == "__main__":
    unittest.main()
