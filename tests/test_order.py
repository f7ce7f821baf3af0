"""Promise [7]: which LOT never asks more than another one, for all calendars and all prices."""

import functools
import itertools
import random
import unittest

from anyhands import order
from anyhands.errors import Unlike
from anyhands.lots import added, behind, joined, put_in, times_over
from anyhands.order import (
    always_heaviest, always_lightest, compare, heavy_calendar, heavy_prices, is_heavy_calendar, is_heavy_prices,
    never_more, over, unbeaten,
)
from tests.support import (
    BIG, JUNK, asked_by_hours, check_error, check_new, check_same, check_thing, check_value, grid, hours_in,
    least_left, lots_of_work, nearly, nested, pieces_of, plain_never_more, run_examples, small_lots, some_lot,
    stretches, written_as,
)

EXAMPLES = """
    >>> near, nest, wide = (3, (((0, 1), 1), ((1, 2), 1))), (3, (((0, 2), 1), ((1, 1), 1))), (3, (((0, 2), 2),))
    >>> never_more(near, nest), never_more(nest, near), compare(near, nest), compare(near, wide), compare(wide, nest), compare(nest, nest)
    (True, False, 'lighter', 'heavier', 'lighter', 'alike')
    >>> early, late = (3, (((0, 0), 1),)), (3, (((2, 2), 1),))
    >>> compare(early, late), over(nest, near), over(early, late), over(near, nest)
    ('neither', [(1, 1, 1)], [(0, 0, 1), (0, 1, 1)], [])
    >>> is_heavy_calendar(nest, near, (1, 0, 1)), is_heavy_calendar(nest, near, (1, 0, 0)), is_heavy_calendar(near, nest, (1, 0, 1)), is_heavy_calendar(early, late, (0, 5, 1))
    (True, False, False, True)
    >>> heavy_calendar(near, nest), is_heavy_calendar(nest, near, heavy_calendar(nest, near)), is_heavy_prices(nest, near, (0, 1, 0)), is_heavy_prices(nest, near, (1, 1, 1)), is_heavy_prices(early, late, heavy_prices(early, late))
    (None, True, True, False, True)
    >>> always_lightest((nest, wide, near)), always_lightest((early, late)), always_heaviest((nest, wide, near)), unbeaten((nest, near, early)), unbeaten((late, late))
    (1, None, 0, (1, 2), (0, 1))
    >>> compare(near, (2, ()))
    raises Unlike()
"""

NEAR, NEST, WIDE = (3, (((0, 1), 1), ((1, 2), 1))), (3, (((0, 2), 1), ((1, 1), 1))), (3, (((0, 2), 2),))
EARLY, LATE = (3, (((0, 0), 1),)), (3, (((2, 2), 1),))
NONE = (3, ())
FULL = (8, tuple(((first, last), BIG - 8 * first - last) for first in range(8) for last in range(first, 8)))
WITH_BOTH = (never_more, compare, over, heavy_calendar, heavy_prices)
WITH_THING = (is_heavy_calendar, is_heavy_prices)
WITH_LOTS = (always_lightest, always_heaviest, unbeaten)
OTHER_HOURS = ((1, ()), (2, (((0, 1), 1),)), (4, NEAR[1]), (8, ()))


@functools.cache
def left_by_calendars(lot, most):
    """What is left of the LOT by each small calendar, by a plain search."""
    return [least_left(pieces_of(lot), calendar) for calendar in grid(lot[0], most)]


def plain_cost(lot, prices):
    """What the pieces cost, each in the cheapest hour of its window."""
    return sum(min(prices[hour] for hour in hours_in(window)) for window in pieces_of(lot))


@functools.cache
def costs(lot, most):
    return [plain_cost(lot, prices) for prices in grid(lot[0], most)]


def all_at_most(one, other):
    return all(low <= high for low, high in zip(one, other))


def small_pairs():
    """All pairs of LOTs that are small in one way or another, with hands enough for each of them."""
    for hours, lots, most in ((1, small_lots(1, 4), 5), (2, small_lots(2, 2), 6), (3, small_lots(3, 1), 6),
                              (4, lots_of_work(4, 2), 2)):
        kept = list(lots)
        for one, other in itertools.product(kept, repeat=2):
            yield one, other, most


class Examples(unittest.TestCase):

    def test_those_of_the_document(self):
        run_examples(self, EXAMPLES, vars(order))


class ByPlainSearch(unittest.TestCase):

    def test_never_more_for_all_calendars_and_prices(self):
        for one, other, most in small_pairs():
            told = never_more(one, other)
            left, other_left = left_by_calendars(one, most), left_by_calendars(other, most)
            self.assertIs(told, all_at_most(left, other_left))
            self.assertIs(told, all(own == 0 for own, its in zip(left, other_left) if its == 0))
            self.assertIs(told, all_at_most(costs(one, 2), costs(other, 2)))
            self.assertIs(told, all_at_most(costs(one, 1), costs(other, 1)))

    def test_over_and_compare(self):
        for one, other, _ in small_pairs():
            rows = []
            for first, last in stretches(one[0]):
                hours = hours_in((first, last))
                more = asked_by_hours(one, hours) - asked_by_hours(other, hours)
                if more > 0:
                    rows.append((first, last, more))
            self.assertEqual(over(one, other), rows)
            self.assertIs(never_more(one, other), not rows)
            words = {(True, True): "alike", (True, False): "lighter", (False, True): "heavier", (False, False): "neither"}
            word = words[plain_never_more(one, other), plain_never_more(other, one)]
            self.assertEqual(compare(one, other), word)
            self.assertEqual(word == "alike", one == other)

    def test_heavy_calendar_and_heavy_prices(self):
        for one, other, _ in small_pairs():
            calendar, prices = heavy_calendar(one, other), heavy_prices(one, other)
            if plain_never_more(one, other):
                self.assertIsNone(calendar)
                self.assertIsNone(prices)
                continue
            self.assertTrue(written_as((0,) * one[0], calendar) and written_as((0,) * one[0], prices))
            self.assertEqual(least_left(pieces_of(other), calendar), 0)
            self.assertGreater(least_left(pieces_of(one), calendar), 0)
            self.assertGreater(plain_cost(one, prices), plain_cost(other, prices))
            self.assertIs(is_heavy_calendar(one, other, calendar), True)
            self.assertIs(is_heavy_prices(one, other, prices), True)

    def test_is_heavy(self):
        kept = [lot for at, lot in enumerate(small_lots(3, 1)) if at % 5 == 0]
        for one, other in itertools.product(kept, repeat=2):
            left = zip(grid(3, 2), left_by_calendars(one, 2), left_by_calendars(other, 2))
            for calendar, own, its in left:
                self.assertIs(is_heavy_calendar(one, other, calendar), own > 0 and its == 0)
            for prices, own, its in zip(grid(3, 2), costs(one, 2), costs(other, 2)):
                self.assertIs(is_heavy_prices(one, other, prices), own > its)

    def test_never_more_stays(self):
        chance = random.Random(7)
        for one, other, _ in small_pairs():
            if chance.random() > 0.2:
                continue
            hours, told = one[0], never_more(one, other)
            further = some_lot(chance, hours, 3, 2)
            self.assertIs(never_more(behind(one), behind(other)), told)
            self.assertIs(never_more(added(one, further), added(other, further)), told)
            for many in (1, 3, BIG):
                self.assertIs(never_more(times_over(one, many), times_over(other, many)), told)
            if told:
                for hour in range(hours - 1):
                    self.assertIs(never_more(joined(one, hour), joined(other, hour)), True)
                for hour in range(hours + 1):
                    self.assertIs(never_more(put_in(one, hour), put_in(other, hour)), True)


class Several(unittest.TestCase):

    def check(self, lots):
        lightest = [place for place, lot in enumerate(lots) if all(plain_never_more(lot, other) for other in lots)]
        heaviest = [place for place, lot in enumerate(lots) if all(plain_never_more(other, lot) for other in lots)]
        kept = tuple(place for place, lot in enumerate(lots)
                     if not any(other != lot and plain_never_more(other, lot) for other in lots))
        self.assertEqual(always_lightest(lots), min(lightest, default=None))
        self.assertEqual(always_heaviest(lots), min(heaviest, default=None))
        self.assertEqual(unbeaten(lots), kept)

    def test_all_small_rows_of_lots(self):
        kept = list(small_lots(2, 1))
        for many in (1, 2, 3):
            for lots in itertools.product(kept, repeat=many):
                self.check(lots)

    def test_twelve_lots(self):
        chance = random.Random(12)
        for _ in range(40):
            lots = tuple(some_lot(chance, 3, chance.randint(0, 3)) for _ in range(chance.randint(4, 12)))
            self.check(lots)
        self.check(tuple(some_lot(chance, 8, 9, BIG) for _ in range(12)))
        self.check(tuple(times_over(FULL, many) for many in (7, 3, 12, 1, 5, 1, 12, 4, 2, 6, 9, 8)))

    def test_edges(self):
        for lots, lightest, heaviest, kept in (
                ((NEAR,), 0, 0, (0,)), ((NONE,), 0, 0, (0,)), ((NEAR, NEAR), 0, 0, (0, 1)),
                ((NEST, NEAR, NEAR), 1, 0, (1, 2)), ((NEAR, NONE, NEST, NONE), 1, 2, (1, 3)),
                ((EARLY, LATE), None, None, (0, 1)), ((LATE, EARLY, NONE), 2, None, (2,)),
                ((EARLY, LATE, added(EARLY, LATE)), None, 2, (0, 1)), (((1, ()), (1, (((0, 0), BIG),))), 0, 1, (0,)),
                (((8, ()),) * 12, 0, 0, tuple(range(12)))):
            check_value(self, always_lightest, {"lots": lots}, lightest)
            check_value(self, always_heaviest, {"lots": lots}, heaviest)
            check_value(self, unbeaten, {"lots": lots}, kept)

    def test_unlike(self):
        for other in OTHER_HOURS:
            for lots in ((NEAR, other), (other, NEAR), (NEAR, NEST, other), (NEAR, other, NEST), (NEAR,) * 11 + (other,)):
                for function in WITH_LOTS:
                    check_error(self, function, {"lots": lots}, Unlike())


class Edges(unittest.TestCase):

    def test_one_hour(self):
        for work, its in ((0, 0), (0, 1), (1, 0), (3, 3), (3, 2), (BIG, BIG - 1), (BIG - 1, BIG)):
            one, other = ((1, (((0, 0), many),) if many else ()) for many in (work, its))
            values = {"one": one, "other": other}
            word = "alike" if work == its else "lighter" if work < its else "heavier"
            check_value(self, compare, values, word)
            check_value(self, never_more, values, work <= its)
            check_value(self, over, values, [(0, 0, work - its)] if work > its else [])
            for hands in {0, its - 1, its, work - 1, work} - {-1}:
                check_thing(self, is_heavy_calendar, values, (hands,), its <= hands < work)
            for price in (0, 1, BIG):
                check_thing(self, is_heavy_prices, values, (price,), work > its and price > 0)

    def test_no_errands(self):
        for lot in (NEAR, NEST, WIDE, EARLY, LATE):
            check_value(self, compare, {"one": NONE, "other": lot}, "lighter")
            check_value(self, compare, {"one": lot, "other": NONE}, "heavier")
            check_value(self, heavy_calendar, {"one": NONE, "other": lot}, None)
            check_value(self, heavy_prices, {"one": NONE, "other": lot}, None)
            check_value(self, heavy_calendar, {"one": lot, "other": NONE}, (0, 0, 0))
            check_thing(self, is_heavy_calendar, {"one": lot, "other": NONE}, (0, 0, 0), True)
            check_thing(self, is_heavy_prices, {"one": lot, "other": NONE}, (0, 0, 0), False)
        check_value(self, compare, {"one": NONE, "other": NONE}, "alike")
        check_value(self, over, {"one": NONE, "other": NONE}, [])

    def test_eight_hours_and_great_numbers(self):
        more = added(FULL, (8, (((3, 4), 1),)))
        self.assertEqual(compare(FULL, more), "lighter")
        self.assertEqual(compare(more, FULL), "heavier")
        rows = [(first, last, 1) for first, last in stretches(8) if first <= 3 and last >= 4]
        check_value(self, over, {"one": more, "other": FULL}, rows)
        calendar, prices = heavy_calendar(more, FULL), heavy_prices(more, FULL)
        check_thing(self, is_heavy_calendar, {"one": more, "other": FULL}, calendar, True)
        check_thing(self, is_heavy_calendar, {"one": FULL, "other": more}, calendar, False)
        check_thing(self, is_heavy_prices, {"one": more, "other": FULL}, prices, True)
        check_thing(self, is_heavy_prices, {"one": FULL, "other": more}, prices, False)
        great = times_over(times_over(more, BIG), BIG)
        its = times_over(times_over(FULL, BIG), BIG)
        self.assertIs(is_heavy_calendar(great, its, heavy_calendar(great, its)), True)
        self.assertEqual(over(great, its), [(first, last, BIG * BIG) for first, last, _ in rows])

    def test_by_chance(self):
        chance = random.Random(8)
        for _ in range(200):
            hours = chance.randint(4, 8)
            one, other = (some_lot(chance, hours, chance.randint(1, 8), 3) for _ in range(2))
            self.assertIs(never_more(one, other), plain_never_more(one, other))
            if not plain_never_more(one, other):
                self.assertIs(is_heavy_calendar(one, other, heavy_calendar(one, other)), True)
                self.assertEqual(least_left(pieces_of(other)[:6], heavy_calendar(one, other)), 0)
                self.assertGreater(plain_cost(one, heavy_prices(one, other)), plain_cost(other, heavy_prices(one, other)))

    def test_forms(self):
        for one, other in itertools.product((NEAR, NEST, WIDE, EARLY, LATE, NONE), repeat=2):
            for function in WITH_BOTH:
                check_same(self, function, {"one": one, "other": other})
            check_new(self, over, {"one": one, "other": other})
        check_same(self, heavy_calendar, {"one": FULL, "other": (8, ())})
        check_same(self, unbeaten, {"lots": (NEAR, NEST, WIDE, EARLY, LATE, NONE)})


class Things(unittest.TestCase):

    def test_nearly_calendars_and_prices(self):
        for one, other, heavy in ((NEST, NEAR, (1, 0, 1)), (EARLY, LATE, (0, 5, 1)), (NEST, NONE, (0, 0, 0))):
            for thing in nearly(heavy):
                with self.subTest(one=one, other=other, thing=thing):
                    fits = written_as((0, 0, 0), thing) and min(thing) >= 0
                    done = fits and least_left(pieces_of(other), thing) == 0 < least_left(pieces_of(one), thing)
                    self.assertIs(is_heavy_calendar(one, other, thing), done)
                    dear = fits and plain_cost(one, thing) > plain_cost(other, thing)
                    self.assertIs(is_heavy_prices(one, other, thing), dear)

    def test_others(self):
        values = {"one": NEST, "other": NEAR}
        check_thing(self, is_heavy_calendar, values, (1, 0, 1), True)
        check_thing(self, is_heavy_calendar, values, (BIG ** 3, 0, BIG), True)
        check_thing(self, is_heavy_prices, values, (0, 1, 0), True)
        check_thing(self, is_heavy_prices, values, (BIG, BIG ** 3, 0), True)
        for thing in (*JUNK, [1, 0, 1], [0, 1, 0], (1, 0), (1, 0, 1, 0), (True, 0, 1), (0, True, 0), (1, False, 1),
                      (-1, 0, 1), (0, 1, -1), (1, -1, 1), (1, None, 1), ("1", "0", "1"), "101", (1, 0, 1, None)):
            check_thing(self, is_heavy_calendar, values, thing, False)
            check_thing(self, is_heavy_prices, values, thing, False)
        for depth in range(1, 12):
            self.assertIs(is_heavy_calendar(NEST, NEAR, nested((1, 0, 1), depth)), False)
            self.assertIs(is_heavy_prices(NEST, NEAR, nested((0, 1, 0), depth)), False)


class Errors(unittest.TestCase):

    def test_unlike(self):
        for other in OTHER_HOURS:
            for one, its in ((NEAR, other), (other, NEAR), (NONE, other), (other, NONE)):
                for function in WITH_BOTH:
                    check_error(self, function, {"one": one, "other": its}, Unlike())
                for function in WITH_THING:
                    for thing in (*JUNK, (1, 0, 1), (0,) * its[0]):
                        check_error(self, function, {"one": one, "other": its, "thing": thing}, Unlike())


if __name__ == "__main__":
    unittest.main()
