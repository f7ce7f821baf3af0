"""Promise [6]: calendars, what they do of a LOT, and what they leave undone."""

import itertools
import random
import unittest

from anyhands import calendars
from anyhands.calendars import (
    doing, done_by, full_stretches, hands_in, helpful, is_calendar, is_doing, is_done, is_lacking, lacking, left_by,
    short_stretches, undone,
)
from anyhands.errors import NoStretch, Unfit
from anyhands.lots import added, all_work, is_lot, times_over
from tests.support import (
    BIG, JUNK, asked_by_hours, check_error, check_new, check_same, check_thing, check_value, grid, hours_in,
    in_all_forms, least_left, lots_of_work, nearly, nested, pieces_of, run_examples, small_lots, some_lot, stretches,
    with_one, written_as,
)

EXAMPLES = """
    >>> lot = (4, (((0, 1), 3), ((0, 3), 2), ((1, 2), 2), ((2, 3), 1)))
    >>> even, late, few = (2, 2, 2, 2), (0, 3, 4, 1), (1, 1, 4, 0)
    >>> [is_done(lot, own) for own in (even, late, few)], [undone(lot, own) for own in (even, late, few)], hands_in(late, 1, 2)
    ([True, True, False], [0, 0, 2], 7)
    >>> short_stretches(lot, few), short_stretches(lot, even), full_stretches(lot, even), full_stretches(lot, late)
    ([((0, 1), 1), ((0, 3), 2)], [], [(0, 3)], [(0, 0), (0, 1), (0, 3)])
    >>> lacking(lot, few), is_lacking(lot, few, ((0, 1),)), is_lacking(lot, even, ()), is_lacking(lot, late, ((0, 1),))
    (((0, 3),), False, True, True)
    >>> rows = doing(lot, few)
    >>> rows, done_by(rows), left_by(lot, rows), is_doing(lot, few, rows)
    (((((0, 1), 1),), (((0, 1), 1),), (((0, 3), 2), ((1, 2), 2)), ()), 6, (4, (((0, 1), 1), ((2, 3), 1))), True)
    >>> is_doing(lot, few, ((), (), (), ())), is_doing(lot, few, ((((0, 1), 2),), (), (), ())), is_doing(lot, few, ((((1, 2), 1),), (), (), ()))
    (True, False, False)
    >>> helpful(lot, few), helpful(lot, (0, 0, 9, 9)), helpful(lot, even), is_calendar(2, (0, 5)), is_calendar(2, (0, -1)), is_calendar(2, (0, 5, 0))
    ((0, 1, 2, 3), (0, 1), (), True, False, False)
    >>> is_done(lot, (9, 9))
    raises Unfit()
    >>> hands_in(even, 1, 4)
    raises NoStretch(first=1, last=4)
"""

LOT = (4, (((0, 1), 3), ((0, 3), 2), ((1, 2), 2), ((2, 3), 1)))
EVEN, LATE, FEW, NOBODY = (2, 2, 2, 2), (0, 3, 4, 1), (1, 1, 4, 0), (0, 0, 0, 0)
ONE = (1, (((0, 0), 5),))
NONE = (8, ())
FULL = (8, tuple(((first, last), BIG - 8 * first - last) for first in range(8) for last in range(first, 8)))
BOTH = (is_done, undone, short_stretches, full_stretches, lacking, doing, helpful)
WITH_THING = (is_lacking, is_doing)
WRONG_STRETCHES = ((2, 1), (1, 0), (-1, 0), (-1, 9), (0, 4), (4, 4), (3, 4), (-2, -1), (0, BIG), (-BIG, 0), (BIG, -BIG))


def small_cases():
    """Pairs of a LOT and a calendar, all that are small in one way or another."""
    for hours, lots, most in ((1, small_lots(1, 4), 5), (2, small_lots(2, 2), 3), (3, small_lots(3, 1), 2),
                              (4, lots_of_work(4, 2), 2)):
        for lot in lots:
            for calendar in grid(hours, most):
                yield lot, calendar


def shortage(lot, calendar, stretch):
    return asked_by_hours(lot, hours_in(stretch)) - sum(calendar[hour] for hour in hours_in(stretch))


def apart_sets(hours, begin=0):
    """All ascending tuples of stretches, none ahead of begin, of which no two have an hour in common."""
    yield ()
    for first, last in stretches(hours):
        if first >= begin:
            for further in apart_sets(hours, last + 1):
                yield ((first, last), *further)


def hand_by_hand(lot, calendar):
    """The DOING of the document, one hand behind another."""
    left = list(pieces_of(lot))
    rows = []
    for hour, hands in enumerate(calendar):
        row = {}
        for _ in range(hands):
            fit = [(last, first) for first, last in left if first <= hour <= last]
            if fit:
                window = min(fit)[::-1]
                left.remove(window)
                row[window] = row.get(window, 0) + 1
        rows.append(tuple(sorted(row.items())))
    return tuple(rows)


def plain_is_doing(lot, calendar, thing):
    """Whether thing is a DOING: told by the pieces of the hours."""
    if not written_as([[((0, 0), 0)]], thing) or len(thing) != lot[0]:
        return False
    left = dict(lot[1])
    for hour, row in enumerate(thing):
        if list(row) != sorted(dict(row).items()) or min([many for _, many in row], default=1) < 1:
            return False
        if sum(many for _, many in row) > calendar[hour]:
            return False
        for window, many in row:
            if window not in left or hour not in hours_in(window):
                return False
            left[window] -= many
    return min(left.values(), default=0) >= 0


class Examples(unittest.TestCase):

    def test_those_of_the_document(self):
        run_examples(self, EXAMPLES, vars(calendars))


class IsCalendar(unittest.TestCase):

    def test_calendars(self):
        for calendar in ((0,), (5,), (0, 0), EVEN, FEW, NOBODY, (0,) * 8, (BIG,) * 8, (BIG * BIG, 0)):
            check_thing(self, is_calendar, {"hours": len(calendar)}, calendar, True)
            for hours in range(1, 9):
                self.assertIs(is_calendar(hours, calendar), hours == len(calendar))

    def test_beyond_the_bounds(self):
        self.assertIs(is_calendar(9, (0,) * 9), True)
        self.assertIs(is_calendar(9, (BIG ** 3,) * 9), True)
        self.assertIs(is_calendar(1, (-BIG ** 3,)), False)
        self.assertIs(is_calendar(BIG, (1, 2)), False)

    def test_hands_below_zero(self):
        for at in range(3):
            for number in (-1, -2, -BIG):
                self.assertIs(is_calendar(3, (1, 1, 1)[:at] + (number,) + (1, 1, 1)[at + 1:]), False)

    def test_another_kind_or_another_length(self):
        for calendar in ((0,), (3, 0), (1, 2, 3), (0, 1)):
            for thing in nearly(calendar):
                with self.subTest(thing=thing):
                    expected = written_as((0,) * len(calendar), thing) and min(thing) >= 0
                    self.assertIs(is_calendar(len(calendar), thing), expected)

    def test_others(self):
        for thing in ((), [], [0], [2, 2], (True, False), (True, 1), (1, None), ("1", "2"), "12", ((1, 2),), ([1], 2)):
            for hours in (1, 2):
                self.assertIs(is_calendar(hours, thing), False)
        for depth in range(1, 12):
            self.assertIs(is_calendar(1, nested((0,), depth)), False)


class HandsIn(unittest.TestCase):

    def test_each_stretch(self):
        for calendar in ((0,), (7,), EVEN, LATE, FEW, NOBODY, (1, 2, 4, 8, 16, 32, 64, BIG), (BIG,) * 8):
            for first, last in stretches(len(calendar)):
                expected = sum(calendar[hour] for hour in hours_in((first, last)))
                self.assertEqual(hands_in(calendar, first, last), expected)
        check_value(self, hands_in, {"calendar": LATE, "first": 1, "last": 2}, 7)
        check_value(self, hands_in, {"calendar": (BIG, BIG), "first": 0, "last": 1}, 2 * BIG)

    def test_no_stretch(self):
        for first, last in WRONG_STRETCHES:
            check_error(self, hands_in, {"calendar": EVEN, "first": first, "last": last}, NoStretch(first, last))
        check_error(self, hands_in, {"calendar": (3,), "first": 0, "last": 1}, NoStretch(0, 1))
        check_error(self, hands_in, {"calendar": (1,) * 8, "first": 7, "last": 8}, NoStretch(7, 8))


class ByPlainSearch(unittest.TestCase):

    def test_done_and_undone(self):
        for lot, calendar in small_cases():
            least = least_left(pieces_of(lot), calendar)
            self.assertIs(is_done(lot, calendar), least == 0)
            self.assertEqual(undone(lot, calendar), least)

    def test_done_exactly_with_hands_for_each_stretch(self):
        for lot, calendar in small_cases():
            short = [(stretch, shortage(lot, calendar, stretch)) for stretch in stretches(lot[0])
                     if shortage(lot, calendar, stretch) > 0]
            full = [stretch for stretch in stretches(lot[0]) if shortage(lot, calendar, stretch) == 0]
            self.assertEqual(short_stretches(lot, calendar), short)
            self.assertEqual(full_stretches(lot, calendar), full)
            self.assertEqual(least_left(pieces_of(lot), calendar) == 0, not short)

    def test_lacking(self):
        sets = {hours: list(apart_sets(hours)) for hours in range(1, 5)}
        for lot, calendar in small_cases():
            sums = [(sum(shortage(lot, calendar, stretch) for stretch in some), some) for some in sets[lot[0]]]
            greatest = max(sums)[0]
            self.assertEqual(greatest, least_left(pieces_of(lot), calendar))
            self.assertIn((greatest, lacking(lot, calendar)), sums)

    def test_is_lacking(self):
        tuples = [some for many in range(4) for some in itertools.product(stretches(3), repeat=many)]
        apart = list(apart_sets(3))
        lots = [lot for at, lot in enumerate(small_lots(3, 1)) if at % 7 == 0]
        for lot, calendar in itertools.product(lots, ((0, 0, 0), (1, 0, 1), (0, 2, 0), (1, 1, 1))):
            least = least_left(pieces_of(lot), calendar)
            for some in tuples:
                fits = some in apart and sum(shortage(lot, calendar, stretch) for stretch in some) == least
                self.assertIs(is_lacking(lot, calendar, some), fits)

    def test_doing_leaves_the_least(self):
        for lot, calendar in small_cases():
            rows = doing(lot, calendar)
            self.assertEqual(rows, hand_by_hand(lot, calendar))
            self.assertTrue(plain_is_doing(lot, calendar, rows))
            self.assertIs(is_doing(lot, calendar, rows), True)
            least = least_left(pieces_of(lot), calendar)
            self.assertEqual(done_by(rows), all_work(lot) - least)
            left = left_by(lot, rows)
            self.assertIs(is_lot(left), True)
            self.assertEqual(all_work(left), least)

    def test_is_doing(self):
        lot = (2, (((0, 0), 1), ((0, 1), 2)))
        pairs = [(window, many) for window in stretches(2) for many in range(3)]
        rows = [row for many in range(3) for row in itertools.product(pairs, repeat=many)]
        true = 0
        for calendar in ((0, 0), (1, 1), (2, 1), (3, 3)):
            for thing in itertools.product(rows, repeat=2):
                expected = plain_is_doing(lot, calendar, thing)
                true += expected
                self.assertIs(is_doing(lot, calendar, thing), expected)
        self.assertGreater(true, 20)

    def test_left_by(self):
        for lot, calendar in small_cases():
            for rows in (doing(lot, calendar), tuple(() for _ in calendar)):
                left = list(pieces_of(lot))
                for row in rows:
                    for window, many in row:
                        for _ in range(many):
                            left.remove(window)
                self.assertEqual(pieces_of(left_by(lot, rows)), tuple(left))

    def test_helpful(self):
        for lot, calendar in small_cases():
            pieces = pieces_of(lot)
            least = least_left(pieces, calendar)
            hours = tuple(hour for hour in range(lot[0]) if least_left(pieces, with_one(calendar, hour, 1)) < least)
            self.assertEqual(helpful(lot, calendar), hours)


class EightHours(unittest.TestCase):

    def test_by_hand_and_by_plain_sums(self):
        chance = random.Random(6)
        sets = list(apart_sets(8))
        for _ in range(6):
            lot = some_lot(chance, 8, chance.randint(1, 12), 3)
            calendar = tuple(chance.randint(0, 4) for _ in range(8))
            short = {stretch: shortage(lot, calendar, stretch) for stretch in stretches(8)}
            greatest = max(sum(short[stretch] for stretch in some) for some in sets)
            self.assertEqual(undone(lot, calendar), greatest)
            self.assertEqual(sum(short[stretch] for stretch in lacking(lot, calendar)), greatest)
            self.assertIs(is_lacking(lot, calendar, lacking(lot, calendar)), True)
            self.assertEqual(doing(lot, calendar), hand_by_hand(lot, calendar))
            self.assertEqual(all_work(left_by(lot, doing(lot, calendar))), greatest)

    def test_great_numbers(self):
        work = all_work(FULL)
        self.assertEqual(undone(FULL, (0,) * 8), work)
        self.assertEqual(lacking(FULL, (0,) * 8), ((0, 7),))
        self.assertEqual(helpful(FULL, (0,) * 8), tuple(range(8)))
        self.assertEqual(short_stretches(FULL, (0,) * 8)[-1], ((7, 7), BIG - 63))
        plenty = (36 * BIG,) * 8
        self.assertIs(is_done(FULL, plenty), True)
        self.assertEqual(left_by(FULL, doing(FULL, plenty)), (8, ()))
        self.assertEqual(done_by(doing(FULL, plenty)), work)
        self.assertEqual(done_by(doing(FULL, (BIG,) * 8)), work - undone(FULL, (BIG,) * 8))
        self.assertEqual(undone(FULL, (BIG,) * 8), work - 8 * BIG)

    def test_returned_values_are_passed_in_again(self):
        great = times_over(times_over(LOT, BIG), BIG)
        calendar = tuple(hands * BIG * BIG for hands in FEW)
        rows = doing(great, calendar)
        self.assertEqual(undone(great, calendar), 2 * BIG * BIG)
        self.assertIs(is_doing(great, calendar, rows), True)
        self.assertIs(is_lacking(great, calendar, lacking(great, calendar)), True)
        self.assertEqual(done_by(rows), 6 * BIG * BIG)
        self.assertEqual(left_by(great, rows), times_over(times_over(left_by(LOT, doing(LOT, FEW)), BIG), BIG))
        self.assertEqual(added(left_by(great, rows), left_by(great, rows))[0], 4)


class Edges(unittest.TestCase):

    def test_one_hour(self):
        for hands, least in ((0, 5), (1, 4), (4, 1), (5, 0), (6, 0), (BIG, 0)):
            calendar = (hands,)
            check_value(self, undone, {"lot": ONE, "calendar": calendar}, least)
            check_value(self, is_done, {"lot": ONE, "calendar": calendar}, least == 0)
            check_value(self, short_stretches, {"lot": ONE, "calendar": calendar}, [((0, 0), least)] if least else [])
            check_value(self, full_stretches, {"lot": ONE, "calendar": calendar}, [(0, 0)] if hands == 5 else [])
            check_value(self, helpful, {"lot": ONE, "calendar": calendar}, (0,) if least else ())
            rows = ((((0, 0), 5 - least),) if hands else (),)
            check_value(self, doing, {"lot": ONE, "calendar": calendar}, rows)
            check_value(self, done_by, {"rows": rows}, 5 - least)
            check_value(self, left_by, {"lot": ONE, "rows": rows}, (1, (((0, 0), least),) if least else ()))

    def test_no_errands(self):
        for calendar in ((0,) * 8, (3,) * 8):
            check_value(self, is_done, {"lot": NONE, "calendar": calendar}, True)
            check_value(self, undone, {"lot": NONE, "calendar": calendar}, 0)
            check_value(self, short_stretches, {"lot": NONE, "calendar": calendar}, [])
            check_value(self, doing, {"lot": NONE, "calendar": calendar}, ((),) * 8)
            check_value(self, helpful, {"lot": NONE, "calendar": calendar}, ())
            check_thing(self, is_doing, {"lot": NONE, "calendar": calendar}, ((),) * 8, True)
            check_thing(self, is_lacking, {"lot": NONE, "calendar": calendar}, (), True)
        check_value(self, full_stretches, {"lot": NONE, "calendar": (0,) * 8}, stretches(8))
        check_value(self, full_stretches, {"lot": NONE, "calendar": (3,) * 8}, [])
        check_value(self, done_by, {"rows": ((),) * 8}, 0)
        check_value(self, left_by, {"lot": NONE, "rows": ((),) * 8}, NONE)

    def test_nobody_has_hands(self):
        check_value(self, undone, {"lot": LOT, "calendar": NOBODY}, 8)
        check_value(self, doing, {"lot": LOT, "calendar": NOBODY}, ((), (), (), ()))
        check_value(self, left_by, {"lot": LOT, "rows": ((), (), (), ())}, LOT)
        check_value(self, full_stretches, {"lot": LOT, "calendar": NOBODY}, [(0, 0), (1, 1), (2, 2), (3, 3)])

    def test_forms(self):
        for calendar in (EVEN, LATE, FEW, NOBODY):
            for function in BOTH:
                check_same(self, function, {"lot": LOT, "calendar": calendar})
            rows = doing(LOT, calendar)
            check_same(self, done_by, {"rows": rows})
            check_same(self, left_by, {"lot": LOT, "rows": rows})
            check_thing(self, is_doing, {"lot": LOT, "calendar": calendar}, rows, True)
            check_thing(self, is_lacking, {"lot": LOT, "calendar": calendar}, lacking(LOT, calendar), True)

    def test_lists_are_new(self):
        for calendar in (EVEN, LATE, FEW):
            check_new(self, short_stretches, {"lot": LOT, "calendar": calendar})
            check_new(self, full_stretches, {"lot": LOT, "calendar": calendar})

    def test_beyond_eight_hours(self):
        lot = (10, (((0, 9), 3), ((9, 9), 2)))
        self.assertEqual(undone(lot, (0,) * 9 + (4,)), 1)
        self.assertEqual(helpful(lot, (0,) * 9 + (4,)), tuple(range(10)))


class Things(unittest.TestCase):

    def test_nearly_lacking(self):
        for calendar, lacks in ((FEW, ((0, 3),)), (LATE, ((0, 1),)), (NOBODY, ((0, 3),)), ((0, 9, 9, 0), ())):
            self.assertIs(is_lacking(LOT, calendar, lacks), True)
            for thing in nearly(lacks):
                with self.subTest(calendar=calendar, thing=thing):
                    fits = written_as([(0, 0)], thing) and thing in list(apart_sets(4))
                    expected = fits and sum(shortage(LOT, calendar, part) for part in thing) == undone(LOT, calendar)
                    self.assertIs(is_lacking(LOT, calendar, thing), expected)

    def test_is_lacking_order_doubles_and_range(self):
        lot, calendar = (5, (((0, 0), 2), ((2, 3), 4), ((4, 4), 1))), (1, 5, 1, 0, 0)
        own = {"lot": lot, "calendar": calendar}
        self.assertEqual(undone(lot, calendar), 5)
        for thing in (((0, 0), (2, 3), (4, 4)), ((0, 0), (2, 4))):
            check_thing(self, is_lacking, own, thing, True)
        for thing in (((2, 3), (0, 0), (4, 4)), ((4, 4), (2, 3), (0, 0)), ((0, 0), (0, 0), (2, 3)), ((2, 4), (2, 4)),
                      ((0, 0), (2, 3)), ((0, 0), (2, 3), (3, 4)), ((0, 0), (2, 5)), ((-1, 0), (2, 4)), ((0, 0), (4, 2)),
                      ((0, 0), (2, 3), (4, BIG)), ((-BIG, 0),), [(0, 0), (2, 4)], ([0, 0], (2, 4)), ((0, 0), (2, 4), ()),
                      ((0, False), (2, 4)), ((0, 0, 0), (2, 4)), ((0, 0), (2, 4), None), (((0, 0), (2, 4)),), ()):
            check_thing(self, is_lacking, own, thing, False)

    def test_nearly_doing(self):
        for calendar in (FEW, EVEN, NOBODY):
            rows = doing(LOT, calendar)
            for thing in nearly(rows):
                with self.subTest(calendar=calendar, thing=thing):
                    self.assertIs(is_doing(LOT, calendar, thing), plain_is_doing(LOT, calendar, thing))

    def test_is_doing_order_doubles_and_range(self):
        own = {"lot": LOT, "calendar": (3, 3, 3, 3)}
        for row, expected in (((((0, 1), 1), ((0, 3), 2)), True), ((((0, 3), 2), ((0, 1), 1)), False),
                              ((((0, 1), 1), ((0, 1), 1)), False), ((((0, 1), 1), ((0, 1), 2)), False),
                              ((((0, 1), 3),), True), ((((0, 1), 4),), False), ((((0, 3), 3),), False),
                              ((((0, 1), 3), ((0, 3), 1)), False), ((((0, 1), 0),), False), ((((0, 1), -1),), False),
                              ((((0, 2), 1),), False), ((((1, 2), 1),), False), ((((0, 0), 1),), False),
                              ((((0, BIG), 1),), False), ((((0, 1), BIG ** 3),), False), ((((0, 1), True),), False),
                              ((((False, 1), 1),), False), ((((0, True), 1),), False), (([(0, 1), 1],), False),
                              ((([0, 1], 1),), False), ([((0, 1), 1)], False), (((0, 1), 1), False), (None, False),
                              ((((0, 1), 1, 1),), False), ((((0, 1),),), False), ("", False), ((), True)):
            check_thing(self, is_doing, own, (row, (), (), ()), expected)
        for many in (0, 1, 3, 5, 8):
            check_thing(self, is_doing, own, ((),) * many, False)
        for thing in ([(), (), (), ()], ((), (), (), []), None, "", 4, True):
            check_thing(self, is_doing, own, thing, False)

    def test_is_doing_counts_all_hours_together(self):
        own = {"lot": LOT, "calendar": (3, 3, 3, 3)}
        one, two = (((0, 3), 1),), (((0, 3), 2),)
        check_thing(self, is_doing, own, (one, (), (), one), True)
        check_thing(self, is_doing, own, (one, one, (), one), False)
        check_thing(self, is_doing, own, ((), (), two, ()), True)
        check_thing(self, is_doing, own, ((), one, two, ()), False)

    def test_deep_things(self):
        for depth in range(13):
            for function in WITH_THING:
                self.assertIs(function(LOT, EVEN, nested("", depth)), False)
        for depth in range(1, 12):
            self.assertIs(is_lacking(LOT, FEW, nested(((0, 3),), depth)), False)


class Errors(unittest.TestCase):

    def test_unfit(self):
        for calendar in ((), (0,), (2, 2, 2), (2, 2, 2, 2, 2), (0,) * 8):
            for function in BOTH:
                check_error(self, function, {"lot": LOT, "calendar": calendar}, Unfit())
            for function in WITH_THING:
                for thing in (*JUNK, ((0, 3),), ((), (), (), ()), doing(LOT, FEW)):
                    check_error(self, function, {"lot": LOT, "calendar": calendar, "thing": thing}, Unfit())
        for lot, calendar in ((ONE, ()), (ONE, (1, 1)), (NONE, ()), (NONE, (1,)), (FULL, (1,) * 9), (FULL, (1,) * 7)):
            for function in BOTH:
                check_error(self, function, {"lot": lot, "calendar": calendar}, Unfit())

    def test_no_error_where_it_fits(self):
        for given in in_all_forms({"lot": LOT, "calendar": FEW}):
            for thing in JUNK:
                self.assertIs(is_lacking(**given, thing=thing), False)
                self.assertIs(is_doing(**given, thing=thing), False)


if __name__ == "__main__":
    unittest.main()
