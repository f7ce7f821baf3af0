"""Promise [11]: as few hands as can be."""

import functools
import itertools
import random
import unittest

from anyhands import hands
from anyhands.calendars import is_done, undone
from anyhands.errors import NoHour, NoStretch, Unfit, Unlike
from anyhands.hands import (
    all_least, even_hands, hands_range, hour_range, how_many_least, is_least, is_undone_calendar, least_by,
    least_times, most_undone, nth_least, number_least, slack, thinned, tightest, undone_calendar,
)
from anyhands.lots import all_work, times_over
from anyhands.prices import excess
from tests.support import (
    BIG, JUNK, all_fit, asked_by_hours, check_error, check_new, check_same, check_thing, check_value, grid, hours_in,
    least_left, lots_of_work, nearly, nested, pieces_of, plain_never_more, run_examples, small_lots, some_lot,
    stretches, with_one, written_as,
)

EXAMPLES = """
    >>> lot = (3, (((0, 0), 2), ((0, 1), 3), ((1, 2), 2)))
    >>> even_hands(lot), tightest(lot), least_times(lot, (2, 1, 1)), least_times(lot, (0, 1, 1)), even_hands((2, ())), tightest((2, ()))
    (3, (0, 1), 2, None, 0, None)
    >>> slack(lot, (2, 3, 2)), slack(lot, (3, 3, 3)), slack(lot, (2, 2, 2)), thinned(lot, (3, 3, 3)), thinned(lot, (9, 9, 9)), is_least(lot, (2, 3, 2)), is_least(lot, (3, 3, 3))
    ((0, 0, 0), (1, 1, 2), None, (2, 3, 2), (2, 3, 2), True, False)
    >>> least_by(lot, (0, 1, 2)), least_by(lot, (2, 1, 0)), least_by(lot, (1, 0, 2)), least_by(lot, (0, 2, 1))
    ((2, 3, 2), (5, 2, 0), (5, 0, 2), (2, 5, 0))
    >>> [hour_range(lot, hour) for hour in range(3)], hands_range(lot, 0, 1), hands_range(lot, 1, 2), hands_range(lot, 0, 2)
    ([(2, 5), (0, 5), (0, 2)], (5, 7), (2, 5), (7, 7))
    >>> how_many_least(lot), nth_least(lot, 0), nth_least(lot, 11), nth_least(lot, 12), number_least(lot, (2, 5, 0)), number_least(lot, (3, 3, 3)), all_least((2, (((0, 1), 2),)))
    (12, (2, 3, 2), (5, 2, 0), None, 2, None, [(0, 2), (1, 1), (2, 0)])
    >>> one, other, far = (2, (((0, 0), 1), ((1, 1), 1))), (2, (((0, 1), 5),)), (3, (((0, 0), 1), ((2, 2), 1)))
    >>> most_undone(one, other), most_undone(other, one), most_undone(far, (3, ())), is_undone_calendar(one, other, (0, 5)), is_undone_calendar(one, other, (0, 0)), is_undone_calendar(one, other, undone_calendar(one, other))
    (1, 3, 2, True, False, True)
    >>> hands_range(lot, 2, 1)
    raises NoStretch(first=2, last=1)
    >>> least_by(lot, (0, 1, 1))
    raises Unfit()
"""

LOT = (3, (((0, 0), 2), ((0, 1), 3), ((1, 2), 2)))
NONE = (3, ())
ONE, OTHER, FAR = (2, (((0, 0), 1), ((1, 1), 1))), (2, (((0, 1), 5),)), (3, (((0, 0), 1), ((2, 2), 1)))
WIDE = (4, (((0, 3), 12),))
MIXED = (4, (((0, 0), 1), ((0, 2), 3), ((1, 1), 2), ((1, 3), 4), ((2, 3), 2)))
FULL = (8, tuple(((first, last), BIG - 8 * first - last) for first in range(8) for last in range(first, 8)))
OTHER_HOURS = ((1, ()), (2, (((0, 1), 1),)), (4, LOT[1]), (8, ()))
WRONG_CALENDARS = ((), (2, 2), (2, 2, 2, 2), (0,) * 8, (9,))
WRONG_ORDERS = ((), (0, 1), (0, 1, 1), (0, 1, 2, 3), (1, 2, 3), (-1, 0, 1), (0, 0, 0), (2, 1), (0, 1, BIG),
                (0, 1, 2, 2))
WRONG_STRETCHES = ((2, 1), (1, 0), (-1, 0), (-1, 9), (0, 3), (3, 3), (-2, -1), (0, BIG), (-BIG, 0), (BIG, -BIG))


def lots_of_few_pieces():
    """LOTs that are small in one way or another."""
    for lots in (small_lots(1, 5), small_lots(2, 2), small_lots(3, 1), lots_of_work(3, 3), lots_of_work(4, 2)):
        yield from lots


def does(lot, calendar):
    return all_fit(pieces_of(lot), calendar)


def small_cases():
    """Pairs of a small LOT and a calendar."""
    for lot in lots_of_few_pieces():
        for calendar in grid(lot[0], 4 if lot[0] < 3 else 2):
            yield lot, calendar


@functools.cache
def plain_least(lot):
    """The calendars that do the LOT, and no longer do it with a hand less in any hour."""
    found = []
    for calendar in grid(lot[0], all_work(lot)):
        if does(lot, calendar):
            fewer = [with_one(calendar, hour, -1) for hour, many in enumerate(calendar) if many]
            if not any(does(lot, own) for own in fewer):
                found.append(calendar)
    return found


@functools.cache
def left_by_calendars(lot, most):
    return [least_left(pieces_of(lot), calendar) for calendar in grid(lot[0], most)]


def pairs_of_lots():
    """Pairs of small LOTs, with the most hands that make a difference to them."""
    for lots, most in ((small_lots(1, 4), 4), (small_lots(2, 2), 6), (small_lots(3, 1), 4), (lots_of_work(4, 2), 2)):
        kept = list(lots)
        for one, other in itertools.product(kept, repeat=2):
            yield one, other, most


def sets_of_hours(hours):
    return [some for many in range(hours + 1) for some in itertools.combinations(range(hours), many)]


class Examples(unittest.TestCase):

    def test_those_of_the_document(self):
        run_examples(self, EXAMPLES, vars(hands))


class EvenHands(unittest.TestCase):

    def test_even_hands_and_tightest(self):
        for lot in lots_of_few_pieces():
            hours = lot[0]
            least = min(many for many in range(all_work(lot) + 1) if does(lot, (many,) * hours))
            self.assertEqual(even_hands(lot), least)
            tight = [(first, last) for first, last in stretches(hours)
                     if asked_by_hours(lot, hours_in((first, last))) > (least - 1) * (last - first + 1)]
            self.assertEqual(tightest(lot), min(tight) if all_work(lot) else None)

    def test_least_times(self):
        for lot in lots_of_few_pieces():
            for weights in grid(lot[0], 2):
                found = [many for many in range(all_work(lot) + 1)
                         if does(lot, tuple(many * weight for weight in weights))]
                self.assertEqual(least_times(lot, weights), min(found, default=None))

    def test_edges(self):
        check_value(self, even_hands, {"lot": NONE}, 0)
        check_value(self, tightest, {"lot": NONE}, None)
        check_value(self, even_hands, {"lot": (1, (((0, 0), BIG),))}, BIG)
        check_value(self, tightest, {"lot": (1, (((0, 0), BIG),))}, (0, 0))
        check_value(self, even_hands, {"lot": (8, (((0, 7), BIG),))}, BIG // 8)
        check_value(self, even_hands, {"lot": (8, (((0, 7), BIG + 1),))}, BIG // 8 + 1)
        check_value(self, tightest, {"lot": (8, (((0, 7), BIG),))}, (0, 7))
        check_value(self, tightest, {"lot": (3, (((0, 0), 1), ((1, 1), 2), ((2, 2), 2)))}, (0, 1))
        check_value(self, tightest, {"lot": (3, (((0, 2), 4),))}, (0, 2))
        check_value(self, tightest, {"lot": (3, (((0, 0), 1), ((1, 1), 3), ((2, 2), 2)))}, (1, 1))
        for weights in ((0, 0, 0), (5, 0, 1), (BIG, BIG, BIG)):
            check_value(self, least_times, {"lot": NONE, "weights": weights}, 0)
        check_value(self, least_times, {"lot": LOT, "weights": (0, 0, 0)}, None)
        check_value(self, least_times, {"lot": LOT, "weights": (BIG, 0, BIG)}, 1)
        check_value(self, least_times, {"lot": (3, (((0, 2), 1),)), "weights": (0, 0, 1)}, 1)
        check_value(self, least_times, {"lot": times_over(LOT, BIG * BIG), "weights": (1, 1, 1)},
                    (5 * BIG * BIG + 1) // 2)
        work = all_work(FULL)
        self.assertEqual(even_hands(FULL), (work + 7) // 8)
        self.assertEqual(tightest(FULL), (0, 7))

    def test_unfit(self):
        for weights in WRONG_CALENDARS:
            for lot in (LOT, NONE):
                check_error(self, least_times, {"lot": lot, "weights": weights}, Unfit())


class FewerHands(unittest.TestCase):

    def test_slack(self):
        for lot, calendar in small_cases():
            if not does(lot, calendar):
                self.assertIsNone(slack(lot, calendar))
                continue
            free = [max(many for many in range(own + 1) if does(lot, with_one(calendar, hour, -many)))
                    for hour, own in enumerate(calendar)]
            self.assertEqual(slack(lot, calendar), tuple(free))

    def test_thinned(self):
        for lot, calendar in small_cases():
            if not does(lot, calendar):
                self.assertIsNone(thinned(lot, calendar))
                continue
            now = calendar
            for hour in range(lot[0]):
                while now[hour] and does(lot, with_one(now, hour, -1)):
                    now = with_one(now, hour, -1)
            self.assertEqual(thinned(lot, calendar), now)
            self.assertIs(is_least(lot, now), True)

    def test_is_least(self):
        for lot, calendar in small_cases():
            fewer = [with_one(calendar, hour, -1) for hour, many in enumerate(calendar) if many]
            least = does(lot, calendar) and not any(does(lot, own) for own in fewer)
            self.assertIs(is_least(lot, calendar), least)
            self.assertIs(least, does(lot, calendar) and sum(calendar) == all_work(lot))

    def test_edges(self):
        check_value(self, slack, {"lot": NONE, "calendar": (0, 5, BIG)}, (0, 5, BIG))
        check_value(self, thinned, {"lot": NONE, "calendar": (0, 5, BIG)}, (0, 0, 0))
        check_value(self, is_least, {"lot": NONE, "calendar": (0, 0, 0)}, True)
        check_value(self, is_least, {"lot": NONE, "calendar": (0, 0, 1)}, False)
        check_value(self, slack, {"lot": LOT, "calendar": (0, 0, 0)}, None)
        check_value(self, thinned, {"lot": LOT, "calendar": (0, 0, 0)}, None)
        check_value(self, is_least, {"lot": LOT, "calendar": (0, 0, 0)}, False)
        check_value(self, slack, {"lot": (1, (((0, 0), BIG),)), "calendar": (BIG,)}, (0,))
        check_value(self, slack, {"lot": (1, (((0, 0), BIG),)), "calendar": (BIG - 1,)}, None)
        check_value(self, slack, {"lot": (1, (((0, 0), 1),)), "calendar": (BIG,)}, (BIG - 1,))
        # The sum is right, and yet it is not done.
        check_value(self, is_least, {"lot": LOT, "calendar": (1, 4, 2)}, False)
        for calendar in (thinned(FULL, (all_work(FULL),) * 8), least_by(FULL, (3, 1, 4, 0, 5, 2, 6, 7))):
            check_value(self, is_least, {"lot": FULL, "calendar": calendar}, True)
            check_value(self, slack, {"lot": FULL, "calendar": calendar}, (0,) * 8)
            check_value(self, is_least, {"lot": FULL, "calendar": with_one(calendar, 5, 1)}, False)
        great = times_over(FULL, BIG * BIG)
        self.assertIs(is_least(great, thinned(great, (all_work(great),) * 8)), True)

    def test_unfit(self):
        for calendar in WRONG_CALENDARS:
            for lot in (LOT, NONE):
                for function in (slack, is_least, thinned, number_least):
                    check_error(self, function, {"lot": lot, "calendar": calendar}, Unfit())


class LeastBy(unittest.TestCase):

    def test_against_all_least_calendars(self):
        for lot in lots_of_few_pieces():
            for order in itertools.permutations(range(lot[0])):
                expected = min(plain_least(lot), key=lambda own: [own[hour] for hour in order])
                self.assertEqual(least_by(lot, order), expected)

    def test_edges(self):
        check_value(self, least_by, {"lot": NONE, "order": (2, 0, 1)}, (0, 0, 0))
        check_value(self, least_by, {"lot": (1, (((0, 0), BIG),)), "order": (0,)}, (BIG,))
        check_value(self, least_by, {"lot": (8, (((0, 7), BIG),)), "order": (7, 6, 5, 3, 2, 1, 0, 4)},
                    (0,) * 4 + (BIG, 0, 0, 0))
        check_value(self, least_by, {"lot": LOT, "order": (2, 0, 1)}, (2, 5, 0))

    def test_unfit(self):
        for order in WRONG_ORDERS:
            for lot in (LOT, NONE):
                check_error(self, least_by, {"lot": lot, "order": order}, Unfit())
        check_error(self, least_by, {"lot": (1, ()), "order": (1,)}, Unfit())
        check_error(self, least_by, {"lot": (1, ()), "order": ()}, Unfit())


class Ranges(unittest.TestCase):

    def test_against_all_least_calendars(self):
        for lot in lots_of_few_pieces():
            for first, last in stretches(lot[0]):
                numbers = {sum(own[first:last + 1]) for own in plain_least(lot)}
                least, greatest = hands_range(lot, first, last)
                self.assertEqual(numbers, set(range(least, greatest + 1)))
                self.assertEqual(least, asked_by_hours(lot, hours_in((first, last))))
                without = sum(work for window, work in lot[1] if not hours_in(window) & hours_in((first, last)))
                self.assertEqual(greatest, all_work(lot) - without)
                self.assertTrue(written_as((0, 0), hands_range(lot, first, last)))
            for hour in range(lot[0]):
                self.assertEqual(hour_range(lot, hour), hands_range(lot, hour, hour))

    def test_edges(self):
        for first, last in stretches(3):
            check_value(self, hands_range, {"lot": NONE, "first": first, "last": last}, (0, 0))
            check_same(self, hands_range, {"lot": LOT, "first": first, "last": last})
        check_value(self, hour_range, {"lot": (1, (((0, 0), BIG),)), "hour": 0}, (BIG, BIG))
        check_value(self, hour_range, {"lot": (8, (((0, 6), BIG), ((7, 7), 3))), "hour": 7}, (3, 3))
        check_value(self, hands_range, {"lot": (8, (((0, 6), BIG), ((6, 7), 3))), "first": 6, "last": 7}, (3, BIG + 3))
        check_value(self, hands_range, {"lot": FULL, "first": 0, "last": 7}, (all_work(FULL),) * 2)

    def test_no_stretch_and_no_hour(self):
        for first, last in WRONG_STRETCHES:
            for lot in (LOT, NONE):
                check_error(self, hands_range, {"lot": lot, "first": first, "last": last}, NoStretch(first, last))
        for hour in (-1, 3, 8, BIG, -BIG):
            for lot in (LOT, NONE):
                check_error(self, hour_range, {"lot": lot, "hour": hour}, NoHour(hour))


class AllLeast(unittest.TestCase):

    def check(self, lot, expected):
        self.assertEqual(all_least(lot), expected)
        self.assertEqual(how_many_least(lot), len(expected))
        self.assertEqual([nth_least(lot, number) for number in range(len(expected))], expected)
        self.assertEqual([number_least(lot, own) for own in expected], list(range(len(expected))))
        for number in (-1, -2, -len(expected), len(expected), len(expected) + 1, BIG, -BIG):
            self.assertIsNone(nth_least(lot, number))

    def test_against_a_plain_search(self):
        for lot in lots_of_few_pieces():
            self.check(lot, plain_least(lot))

    def test_with_as_many_hands_as_work(self):
        chance = random.Random(12)
        for _ in range(25):
            lot = some_lot(chance, 4, chance.randint(1, 12))
            work = all_work(lot)
            rows = [row for row in grid(4, work) if sum(row) == work and is_done(lot, row)]
            self.assertEqual(all_least(lot), rows)
            self.assertEqual(how_many_least(lot), len(rows))

    def test_four_hours_and_twelve_pieces(self):
        self.check(WIDE, [row for row in grid(4, 12) if sum(row) == 12])
        self.assertEqual(how_many_least(WIDE), 455)
        self.check(MIXED, [row for row in grid(4, 12) if sum(row) == 12 and is_done(MIXED, row)])
        self.check((4, (((0, 0), 12),)), [(12, 0, 0, 0)])
        self.check((4, (((3, 3), 5), ((0, 0), 7))[::-1]), [(7, 0, 0, 5)])

    def test_edges(self):
        for hours in range(1, 5):
            self.check((hours, ()), [(0,) * hours])
        self.check((1, (((0, 0), 12),)), [(12,)])
        check_new(self, all_least, {"lot": LOT})
        check_new(self, all_least, {"lot": NONE})
        for function in (all_least, how_many_least):
            check_same(self, function, {"lot": LOT})
        check_same(self, nth_least, {"lot": LOT, "number": 3})
        check_value(self, number_least, {"lot": LOT, "calendar": (2, 5, 0)}, 2)
        check_value(self, number_least, {"lot": LOT, "calendar": (2, 5, 1)}, None)
        check_value(self, number_least, {"lot": LOT, "calendar": (0, 7, 0)}, None)
        check_value(self, number_least, {"lot": LOT, "calendar": (0, 0, 0)}, None)


class MostUndone(unittest.TestCase):

    def test_over_all_small_calendars(self):
        for one, other, most in pairs_of_lots():
            left, its = left_by_calendars(one, most), left_by_calendars(other, most)
            greatest = max(more - less for more, less in zip(left, its))
            self.assertEqual(most_undone(one, other), greatest, (one, other))
            self.assertEqual(greatest == 0, plain_never_more(one, other))

    def test_by_sets_of_hours_and_prices(self):
        for one, other, _ in pairs_of_lots():
            sums = [asked_by_hours(one, some) - asked_by_hours(other, some) for some in sets_of_hours(one[0])]
            self.assertEqual(most_undone(one, other), max(sums))
            self.assertEqual(most_undone(one, other), excess(one, other))

    def test_undone_calendar(self):
        for one, other, _ in pairs_of_lots():
            calendar = undone_calendar(one, other)
            self.assertTrue(written_as((0,) * one[0], calendar) and min(calendar) >= 0)
            less = least_left(pieces_of(other), calendar)
            self.assertEqual(least_left(pieces_of(one), calendar) - less, most_undone(one, other))
            self.assertIs(is_undone_calendar(one, other, calendar), True)

    def test_is_undone_calendar(self):
        kept = [lot for at, lot in enumerate(small_lots(3, 1)) if at % 5 == 0]
        for one, other in itertools.product(kept, repeat=2):
            greatest = most_undone(one, other)
            for calendar, more, less in zip(grid(3, 2), left_by_calendars(one, 2), left_by_calendars(other, 2)):
                self.assertIs(is_undone_calendar(one, other, calendar), more - less == greatest)

    def test_edges(self):
        for one, other, more in ((NONE, NONE, 0), (LOT, LOT, 0), (NONE, LOT, 0), (LOT, NONE, 7), (FAR, NONE, 2),
                                 (FAR, LOT, 1), (FULL, (8, ()), all_work(FULL)), ((8, ()), FULL, 0),
                                 ((1, (((0, 0), BIG),)), (1, (((0, 0), 3),)), BIG - 3)):
            check_value(self, most_undone, {"one": one, "other": other}, more)
            calendar = check_same(self, undone_calendar, {"one": one, "other": other})
            check_thing(self, is_undone_calendar, {"one": one, "other": other}, calendar, True)
        great = times_over(FULL, BIG * BIG)
        self.assertEqual(most_undone(great, FULL), all_work(FULL) * (BIG * BIG - 1))
        self.assertIs(is_undone_calendar(great, FULL, undone_calendar(great, FULL)), True)

    def test_eight_hours_by_chance(self):
        chance = random.Random(13)
        for _ in range(60):
            hours = chance.randint(4, 8)
            one, other = (some_lot(chance, hours, chance.randint(1, 9), 4) for _ in range(2))
            greatest = most_undone(one, other)
            calendar = undone_calendar(one, other)
            self.assertEqual(undone(one, calendar) - undone(other, calendar), greatest)
            for _ in range(30):
                row = tuple(chance.randint(0, 6) * chance.randint(0, 1) for _ in range(hours))
                self.assertLessEqual(undone(one, row) - undone(other, row), greatest)

    def test_nearly_calendars(self):
        for one, other, calendar in ((ONE, OTHER, (0, 5)), (OTHER, ONE, (0, 0)), (NONE, LOT, (3, 4, 5))):
            greatest = most_undone(one, other)
            for thing in nearly(calendar):
                with self.subTest(one=one, other=other, thing=thing):
                    fits = written_as((0,) * one[0], thing) and min(thing) >= 0
                    left = [least_left(pieces_of(lot), thing) for lot in (one, other)] if fits else [0, 0]
                    self.assertIs(is_undone_calendar(one, other, thing), fits and left[0] - left[1] == greatest)

    def test_others(self):
        values = {"one": ONE, "other": OTHER}
        check_thing(self, is_undone_calendar, values, (0, 5), True)
        check_thing(self, is_undone_calendar, values, (5, 0), True)
        check_thing(self, is_undone_calendar, values, (0, BIG ** 3), True)
        for thing in (*JUNK, [0, 5], (0, 5, 0), (5,), (False, 5), (0, True), (-1, 6), (0, -5), (0, None), ("0", "5"),
                      "05", ((0, 5),), (0, 0), (5, 5)):
            check_thing(self, is_undone_calendar, values, thing, False)
        for depth in range(1, 12):
            self.assertIs(is_undone_calendar(ONE, OTHER, nested((0, 5), depth)), False)

    def test_unlike(self):
        for other in OTHER_HOURS:
            for one, its in ((LOT, other), (other, LOT), (NONE, other), (other, NONE)):
                for function in (most_undone, undone_calendar):
                    check_error(self, function, {"one": one, "other": its}, Unlike())
                for thing in (*JUNK, (0,) * one[0], (0,) * its[0]):
                    check_error(self, is_undone_calendar, {"one": one, "other": its, "thing": thing}, Unlike())


class Forms(unittest.TestCase):

    def test_forms(self):
        for lot in (LOT, NONE, FAR):
            for function in (even_hands, tightest):
                check_same(self, function, {"lot": lot})
            for calendar in ((2, 3, 2), (9, 9, 9), (0, 0, 0), (1, 0, 1)):
                for function in (slack, is_least, thinned):
                    check_same(self, function, {"lot": lot, "calendar": calendar})
                check_same(self, least_times, {"lot": lot, "weights": calendar})
            for order in itertools.permutations(range(3)):
                check_same(self, least_by, {"lot": lot, "order": order})
            for hour in range(3):
                check_same(self, hour_range, {"lot": lot, "hour": hour})


if __name__ == "__main__":
    unittest.main()
