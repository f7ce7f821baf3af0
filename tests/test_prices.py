"""Promise [8]: what the cheapest hands for a LOT cost, and by how much one LOT costs more than another one."""

import functools
import itertools
import random
import unittest

from anyhands import prices as prices_file
from anyhands.calendars import is_calendar
from anyhands.errors import NoHour, Unfit, Unlike
from anyhands.lots import all_work, times_over
from anyhands.order import never_more
from anyhands.prices import (
    asked_of, cheapest, cheapest_hands, excess, excess_hours, expense, fall, how_many_orders, is_cheapest, is_prices,
    levels, never_dearer_in, rise,
)
from tests.support import (
    BIG, JUNK, WRONG_HOURS, asked_by_hours, check_error, check_new, check_same, check_thing, check_value, grid,
    in_all_forms, least_left, lots_of_work, nearly, nested, pieces_of, run_examples, small_lots, some_lot, with_one,
    written_as,
)

EXAMPLES = """
    >>> near, nest = (3, (((0, 1), 1), ((1, 2), 1))), (3, (((0, 2), 1), ((1, 1), 1)))
    >>> cheapest(near, (2, 5, 1)), cheapest(nest, (2, 5, 1)), cheapest_hands(near, (2, 5, 1)), expense((1, 0, 1), (2, 5, 1)), is_prices(3, (2, 5, 1)), is_prices(3, (2, -5, 1))
    (3, 6, (1, 0, 1), 3, True, False)
    >>> is_cheapest(near, (2, 5, 1), (1, 0, 1)), is_cheapest(near, (2, 5, 1), (0, 2, 0)), is_cheapest(near, (2, 5, 1), (0, 0, 2)), is_cheapest(near, (1, 1, 1), (0, 2, 0))
    (True, False, False, True)
    >>> asked_of(nest, (0, 1)), asked_of(nest, (0, 2)), asked_of(near, (0, 1, 2)), levels(nest, (2, 5, 1)), levels(nest, (0, 0, 4))
    (1, 0, 2, [(1, 2), (1, 1), (3, 1)], [(4, 0)])
    >>> excess(nest, near), excess_hours(nest, near), excess(nest, near, 7), excess(near, nest), excess_hours(near, nest), excess((2, (((0, 0), 1), ((1, 1), 1))), (2, (((0, 1), 2),)))
    (1, (1,), 7, 0, (), 1)
    >>> never_dearer_in(nest, near, (0, 1, 2)), never_dearer_in(nest, near, (0, 2, 1)), how_many_orders(nest, near), how_many_orders(near, nest)
    (True, False, 4, 6)
    >>> rise(near, (2, 5, 1), 0), rise(near, (2, 5, 1), 1), rise(nest, (2, 5, 1), 2), fall(nest, (2, 5, 1), 1), fall(near, (2, 2, 1), 0), fall(near, (0, 5, 1), 0)
    (1, 0, 1, 1, 1, 0)
    >>> cheapest(near, (1, 2))
    raises Unfit()
    >>> asked_of(near, (1, 3))
    raises NoHour(hour=3)
"""

NEAR, NEST = (3, (((0, 1), 1), ((1, 2), 1))), (3, (((0, 2), 1), ((1, 1), 1)))
NONE = (3, ())
ONE = (1, (((0, 0), 5),))
FULL = (8, tuple(((first, last), BIG - 8 * first - last) for first in range(8) for last in range(first, 8)))
WITH_PRICES = (cheapest, cheapest_hands, levels)
OTHER_HOURS = ((1, ()), (2, (((0, 1), 1),)), (4, NEAR[1]), (8, ()))
WRONG_ROWS = ((), (1,), (1, 2), (2, 5, 1, 1), (0,) * 8)


@functools.cache
def doing_calendars(lot):
    """All calendars that do the LOT, with at most as many hands an hour as it has work: by a plain search."""
    pieces = pieces_of(lot)
    return [calendar for calendar in grid(lot[0], len(pieces)) if least_left(pieces, calendar) == 0]


def plain_expense(calendar, prices):
    return sum(hands * prices[hour] for hour, hands in enumerate(calendar))


@functools.cache
def plain_cost(lot, prices):
    """The least expense of the calendars that do the LOT."""
    return min(plain_expense(calendar, prices) for calendar in doing_calendars(lot))


def small_sets():
    """Each LOT that is small in one way or another, with small prices for it."""
    for hours, lots in ((1, small_lots(1, 4)), (2, small_lots(2, 2)), (3, small_lots(3, 1)), (4, lots_of_work(4, 2))):
        for lot in lots:
            yield lot, grid(hours, 2 if hours < 4 else 1)


def small_pairs(step=1):
    kept = [list(small_lots(1, 4)), list(small_lots(2, 2)), list(small_lots(3, 1)), list(lots_of_work(4, 2))]
    for lots in kept:
        yield from list(itertools.product(lots, repeat=2))[::step]


def all_sets(hours):
    return sorted(some for many in range(hours + 1) for some in itertools.combinations(range(hours), many))


def rising_along(order, most):
    """All prices up to most that do not fall along the order."""
    for row in itertools.combinations_with_replacement(range(most + 1), len(order)):
        yield tuple(row[order.index(hour)] for hour in range(len(order)))


class Examples(unittest.TestCase):

    def test_those_of_the_document(self):
        run_examples(self, EXAMPLES, vars(prices_file))


class IsPrices(unittest.TestCase):

    def test_prices(self):
        for prices in ((0,), (5,), (2, 5, 1), (0, 0, 0), (BIG,) * 8, (0,) * 8, (BIG * BIG, 0), (1,) * 20):
            check_thing(self, is_prices, {"hours": len(prices)}, prices, True)
            for hours in (*range(1, 22), BIG):
                self.assertIs(is_prices(hours, prices), hours == len(prices))

    def test_nearly(self):
        for prices in ((0,), (3, 0), (1, 2, 3), (0, 1)):
            for thing in nearly(prices):
                with self.subTest(thing=thing):
                    expected = written_as((0,) * len(prices), thing) and min(thing) >= 0
                    self.assertIs(is_prices(len(prices), thing), expected)
        for thing in ((-1, 0, 0), (0, 0, -BIG), (0, -1, 5), [2, 5, 1], (2, 5, True), (False, 0, 0), "251", (2, 5, None),
                      ((2, 5, 1),), (2, 5, (1,)), ("2", "5", "1"), (2, 5), (2, 5, 1, 1), ()):
            check_thing(self, is_prices, {"hours": 3}, thing, False)
        for depth in range(1, 12):
            self.assertIs(is_prices(1, nested((0,), depth)), False)


class Cost(unittest.TestCase):

    def test_expense(self):
        for calendar, prices in itertools.product(grid(3, 2), repeat=2):
            self.assertEqual(expense(calendar, prices), plain_expense(calendar, prices))
        check_value(self, expense, {"calendar": (1, 0, 1), "prices": (2, 5, 1)}, 3)
        check_value(self, expense, {"calendar": (0,), "prices": (BIG,)}, 0)
        check_value(self, expense, {"calendar": (BIG,) * 8, "prices": (BIG,) * 8}, 8 * BIG * BIG)

    def test_cheapest_is_the_least_expense(self):
        for lot, rows in small_sets():
            for prices in rows:
                cost = cheapest(lot, prices)
                self.assertEqual(cost, plain_cost(lot, prices))
                hands = cheapest_hands(lot, prices)
                self.assertTrue(written_as((0,) * lot[0], hands))
                self.assertEqual(least_left(pieces_of(lot), hands), 0)
                self.assertEqual(plain_expense(hands, prices), cost)
                self.assertIs(is_cheapest(lot, prices, hands), True)

    def test_is_cheapest(self):
        for lot in (NEAR, NEST, NONE, (3, (((0, 0), 1), ((0, 2), 1)))):
            pieces = pieces_of(lot)
            for prices in grid(3, 2):
                for calendar in grid(3, 3):
                    done = least_left(pieces, calendar) == 0
                    expected = done and plain_expense(calendar, prices) == plain_cost(lot, prices)
                    self.assertIs(is_cheapest(lot, prices, calendar), expected)

    def test_levels(self):
        for lot, rows in small_sets():
            for prices in rows:
                numbers = sorted({0, *prices})
                expected = [(number - lower, asked_by_hours(lot, [at for at, own in enumerate(prices) if own >= number]))
                            for lower, number in zip(numbers, numbers[1:])]
                self.assertEqual(levels(lot, prices), expected)
                self.assertEqual(sum(step * work for step, work in levels(lot, prices)), plain_cost(lot, prices))

    def test_asked_of(self):
        for hours, lots in ((1, small_lots(1, 2)), (2, small_lots(2, 2)), (3, small_lots(3, 1))):
            for lot, some in itertools.product(lots, all_sets(hours)):
                self.assertEqual(asked_of(lot, some), asked_by_hours(lot, some))
                one_or_none = tuple(1 if hour in some else 0 for hour in range(hours))
                self.assertEqual(asked_of(lot, some), plain_cost(lot, one_or_none))
        for some in all_sets(8):
            self.assertEqual(asked_of(FULL, some), asked_by_hours(FULL, some))

    def test_rise_and_fall(self):
        for lot, rows in small_sets():
            for prices in rows:
                cost = plain_cost(lot, prices)
                for hour in range(lot[0]):
                    self.assertEqual(rise(lot, prices, hour), plain_cost(lot, with_one(prices, hour, 1)) - cost)
                    less = cost - plain_cost(lot, with_one(prices, hour, -1)) if prices[hour] else 0
                    self.assertEqual(fall(lot, prices, hour), less)


class Excess(unittest.TestCase):

    def test_excess_is_the_greatest_over_all_small_prices(self):
        for one, other in small_pairs(3):
            for most in (0, 1, 2):
                if one[0] == 4 and most == 2:
                    continue
                more = [plain_cost(one, prices) - plain_cost(other, prices) for prices in grid(one[0], most)]
                self.assertEqual(excess(one, other, most), max(more))
                self.assertEqual(excess(one, other, most), most * excess(one, other))
            self.assertIs(excess(one, other) == 0, never_more(one, other))

    def test_excess_hours(self):
        for one, other in small_pairs(3):
            sums = {some: asked_by_hours(one, some) - asked_by_hours(other, some) for some in all_sets(one[0])}
            greatest = max(sums.values())
            self.assertEqual(excess(one, other), greatest)
            self.assertEqual(excess_hours(one, other), min(some for some in sums if sums[some] == greatest))

    def test_the_least_of_several_sets(self):
        one = (4, (((0, 0), 1), ((2, 2), 1), ((3, 3), 1)))
        for errands, some in (((), (0, 1, 2, 3)), ((((0, 1), 1),), (0, 2, 3)), ((((0, 0), 1),), (0, 1, 2, 3)),
                              ((((0, 0), 2),), (1, 2, 3)), ((((0, 0), 2), ((1, 1), 3)), (2, 3)),
                              ((((0, 0), 2), ((1, 1), 1), ((3, 3), 1)), (2,)), ((((0, 3), 1),), (0, 2, 3)),
                              ((((0, 0), 1), ((2, 2), 1), ((3, 3), 1)), ()), ((((0, 0), 9), ((2, 3), 1)), (1, 2))):
            check_value(self, excess_hours, {"one": one, "other": (4, errands)}, some)

    def test_eight_hours_by_chance(self):
        chance = random.Random(88)
        sets = all_sets(8)
        for _ in range(10):
            one, other = (some_lot(chance, 8, chance.randint(0, 9), 5) for _ in range(2))
            sums = [asked_by_hours(one, some) - asked_by_hours(other, some) for some in sets]
            self.assertEqual(excess(one, other), max(sums))
            self.assertEqual(excess(one, other, BIG), max(sums) * BIG)
            self.assertEqual(excess_hours(one, other), sets[sums.index(max(sums))])
            prices = tuple(chance.randint(0, 3) for _ in range(8))
            self.assertEqual(sum(step * work for step, work in levels(one, prices)), cheapest(one, prices))
            self.assertLessEqual(cheapest(one, prices) - cheapest(other, prices), excess(one, other, 3))


class Orders(unittest.TestCase):

    def test_never_dearer_in_for_all_small_prices(self):
        for one, other in small_pairs(5):
            told = []
            for order in itertools.permutations(range(one[0])):
                expected = all(plain_cost(one, prices) <= plain_cost(other, prices)
                               for prices in rising_along(order, 1 if one[0] == 4 else 2))
                self.assertIs(never_dearer_in(one, other, order), expected)
                told.append(expected)
            self.assertEqual(how_many_orders(one, other), sum(told))
            self.assertIs(all(told), never_more(one, other))

    def test_five_hours_by_chance(self):
        chance = random.Random(5)
        for _ in range(20):
            one, other = (some_lot(chance, 5, chance.randint(1, 6), 2) for _ in range(2))
            orders = list(itertools.permutations(range(5)))
            told = [never_dearer_in(one, other, order) for order in orders]
            self.assertEqual(how_many_orders(one, other), sum(told))
            for order, own in zip(orders[::17], told[::17]):
                expected = all(cheapest(one, prices) <= cheapest(other, prices) for prices in rising_along(order, 2))
                self.assertIs(own, expected)

    def test_eight_hours(self):
        first, whole, none = (8, (((0, 0), 1),)), (8, (((0, 7), 1),)), (8, ())
        for one, other, many in ((none, none, 40320), (FULL, FULL, 40320), (none, FULL, 40320), (FULL, none, 0),
                                 (first, none, 0), (first, whole, 5040), (whole, first, 40320)):
            check_value(self, how_many_orders, {"one": one, "other": other}, many)
        for order in itertools.islice(itertools.permutations(range(8)), 0, 40320, 997):
            self.assertIs(never_dearer_in(first, whole, order), order[0] == 0)

    def test_one_hour(self):
        for work, its in ((0, 0), (0, 1), (1, 0), (BIG, BIG), (BIG, BIG - 1)):
            one, other = ((1, (((0, 0), many),) if many else ()) for many in (work, its))
            check_value(self, how_many_orders, {"one": one, "other": other}, 1 if work <= its else 0)
            check_value(self, never_dearer_in, {"one": one, "other": other, "order": (0,)}, work <= its)


class Edges(unittest.TestCase):

    def test_prices_of_zero(self):
        for lot in (NEAR, NEST, NONE):
            check_value(self, cheapest, {"lot": lot, "prices": (0, 0, 0)}, 0)
            check_value(self, levels, {"lot": lot, "prices": (0, 0, 0)}, [])
            for hour in range(3):
                check_value(self, fall, {"lot": lot, "prices": (0, 0, 0), "hour": hour}, 0)
                check_value(self, fall, {"lot": lot, "prices": with_one((3, 3, 3), hour, -3), "hour": hour}, 0)
            check_thing(self, is_cheapest, {"lot": lot, "prices": (0, 0, 0)}, (9, 9, 9), True)
        check_value(self, rise, {"lot": NEST, "prices": (0, 0, 0), "hour": 1}, 1)
        check_value(self, rise, {"lot": NEST, "prices": (0, 0, 0), "hour": 0}, 0)
        check_thing(self, is_cheapest, {"lot": NEAR, "prices": (0, 2, 1)}, (5, 0, 1), True)
        check_thing(self, is_cheapest, {"lot": NEAR, "prices": (0, 2, 1)}, (0, 0, 1), False)

    def test_one_hour(self):
        check_value(self, cheapest, {"lot": ONE, "prices": (3,)}, 15)
        check_value(self, cheapest_hands, {"lot": ONE, "prices": (3,)}, (5,))
        check_value(self, levels, {"lot": ONE, "prices": (3,)}, [(3, 5)])
        check_value(self, rise, {"lot": ONE, "prices": (3,), "hour": 0}, 5)
        check_value(self, fall, {"lot": ONE, "prices": (1,), "hour": 0}, 5)
        check_value(self, fall, {"lot": ONE, "prices": (0,), "hour": 0}, 0)
        check_value(self, asked_of, {"lot": ONE, "some": ()}, 0)
        check_value(self, asked_of, {"lot": ONE, "some": (0,)}, 5)
        check_value(self, excess, {"one": ONE, "other": (1, ()), "most": 3}, 15)
        check_value(self, excess_hours, {"one": ONE, "other": (1, ())}, (0,))
        check_value(self, excess_hours, {"one": (1, ()), "other": ONE}, ())

    def test_no_errands(self):
        for prices in ((0, 0, 0), (2, 5, 1), (BIG, BIG, BIG)):
            check_value(self, cheapest, {"lot": NONE, "prices": prices}, 0)
            check_value(self, rise, {"lot": NONE, "prices": prices, "hour": 2}, 0)
            check_value(self, fall, {"lot": NONE, "prices": prices, "hour": 2}, 0)
        check_value(self, levels, {"lot": NONE, "prices": (2, 2, 1)}, [(1, 0), (1, 0)])
        check_value(self, asked_of, {"lot": NONE, "some": (0, 1, 2)}, 0)
        check_value(self, excess, {"one": NONE, "other": NEAR}, 0)
        check_thing(self, is_cheapest, {"lot": NONE, "prices": (2, 5, 1)}, (0, 0, 0), True)
        check_thing(self, is_cheapest, {"lot": NONE, "prices": (2, 5, 1)}, (0, 0, 1), False)

    def test_the_empty_set_of_hours(self):
        for lot in (NEAR, NEST, NONE, FULL, ONE):
            check_value(self, asked_of, {"lot": lot, "some": ()}, 0)

    def test_most(self):
        values = {"one": NEST, "other": NEAR}
        check_value(self, excess, values, 1)
        for most in (0, 1, 2, 7, BIG):
            check_value(self, excess, {**values, "most": most}, most)
            check_value(self, excess, {"one": NEAR, "other": NEST, "most": most}, 0)
        self.assertEqual(excess(NEST, NEAR, most=5), 5)

    def test_great_numbers(self):
        prices = tuple(BIG - hour for hour in range(8))
        cost = sum(work * (BIG - last) for (_, last), work in FULL[1])
        check_value(self, cheapest, {"lot": FULL, "prices": prices}, cost)
        hands = cheapest_hands(FULL, prices)
        self.assertIs(is_calendar(8, hands), True)
        self.assertGreater(max(hands), BIG)
        self.assertEqual(expense(hands, prices), cost)
        check_thing(self, is_cheapest, {"lot": FULL, "prices": prices}, hands, True)
        check_thing(self, is_cheapest, {"lot": FULL, "prices": prices}, with_one(hands, 0, 1), False)
        check_thing(self, is_cheapest, {"lot": FULL, "prices": prices}, with_one(hands, 7, -1), False)
        great = times_over(times_over(FULL, BIG), BIG)
        self.assertIs(is_cheapest(great, prices, cheapest_hands(great, prices)), True)
        self.assertEqual(cheapest(great, hands), cheapest(FULL, hands) * BIG * BIG)
        self.assertEqual(sum(step * work for step, work in levels(great, hands)), cheapest(great, hands))
        self.assertEqual(excess(great, FULL, BIG), BIG * (all_work(great) - all_work(FULL)))
        self.assertEqual(rise(great, (0,) * 8, 4), great[1][26][1])
        self.assertEqual(fall(great, (5,) * 8, 4), all_work(great) - asked_of(great, (0, 1, 2, 3, 5, 6, 7)))

    def test_forms(self):
        for lot, prices in ((NEAR, (2, 5, 1)), (NEST, (2, 5, 1)), (NEST, (0, 0, 4)), (FULL, (3, 1, 4, 1, 5, 9, 2, 6))):
            for function in WITH_PRICES:
                check_same(self, function, {"lot": lot, "prices": prices})
            check_new(self, levels, {"lot": lot, "prices": prices})
            for hour in range(lot[0]):
                check_same(self, rise, {"lot": lot, "prices": prices, "hour": hour})
                check_same(self, fall, {"lot": lot, "prices": prices, "hour": hour})
            check_same(self, asked_of, {"lot": lot, "some": tuple(range(lot[0]))})
            check_thing(self, is_cheapest, {"lot": lot, "prices": prices}, cheapest_hands(lot, prices), True)
        for one, other in ((NEAR, NEST), (NEST, NEAR), (FULL, (8, ()))):
            check_same(self, excess, {"one": one, "other": other, "most": 3})
            check_same(self, excess_hours, {"one": one, "other": other})
            check_same(self, how_many_orders, {"one": one, "other": other})
            check_same(self, never_dearer_in, {"one": one, "other": other, "order": tuple(range(one[0]))[::-1]})


class Things(unittest.TestCase):

    def test_nearly_cheapest(self):
        for lot, prices, hands in ((NEAR, (2, 5, 1), (1, 0, 1)), (NEST, (0, 0, 4), (1, 1, 0)), (NONE, (1, 0, 1), (0, 0, 0))):
            self.assertIs(is_cheapest(lot, prices, hands), True)
            for thing in nearly(hands):
                with self.subTest(lot=lot, thing=thing):
                    fits = written_as((0, 0, 0), thing) and min(thing) >= 0
                    done = fits and least_left(pieces_of(lot), thing) == 0
                    expected = done and plain_expense(thing, prices) == plain_cost(lot, prices)
                    self.assertIs(is_cheapest(lot, prices, thing), expected)

    def test_others(self):
        values = {"lot": NEAR, "prices": (2, 5, 1)}
        for thing in (*JUNK, [1, 0, 1], (True, 0, 1), (1, False, True), (1, 0), (1, 0, 1, 0), (2, 0, 1), (1, 0, 2),
                      (3, -1, 2), (1, 0, None), ("1", "0", "1"), "101", ((1, 0, 1),), (BIG ** 3, 0, BIG ** 3)):
            check_thing(self, is_cheapest, values, thing, False)
        check_thing(self, is_cheapest, {"lot": NEAR, "prices": (0, 0, 1)}, (BIG ** 3, BIG ** 3, 0), True)
        for depth in range(1, 12):
            self.assertIs(is_cheapest(NEAR, (2, 5, 1), nested((1, 0, 1), depth)), False)


class Errors(unittest.TestCase):

    def test_unfit_prices(self):
        for prices in WRONG_ROWS:
            for function in WITH_PRICES:
                check_error(self, function, {"lot": NEAR, "prices": prices}, Unfit())
            for hour in (0, 2, 3, *WRONG_HOURS):
                check_error(self, rise, {"lot": NEAR, "prices": prices, "hour": hour}, Unfit())
                check_error(self, fall, {"lot": NEAR, "prices": prices, "hour": hour}, Unfit())
            for thing in (*JUNK, (1, 0, 1), prices):
                check_error(self, is_cheapest, {"lot": NEAR, "prices": prices, "thing": thing}, Unfit())
            check_error(self, expense, {"calendar": (1, 0, 1), "prices": prices}, Unfit())
            check_error(self, expense, {"calendar": prices, "prices": (1, 0, 1)}, Unfit())
        for prices in ((), (1, 1)):
            check_error(self, cheapest, {"lot": ONE, "prices": prices}, Unfit())
        check_error(self, cheapest, {"lot": FULL, "prices": (1,) * 9}, Unfit())

    def test_no_hour(self):
        for hour in (3, 4, 8, *WRONG_HOURS):
            check_error(self, rise, {"lot": NEAR, "prices": (2, 5, 1), "hour": hour}, NoHour(hour))
            check_error(self, fall, {"lot": NEAR, "prices": (2, 5, 0), "hour": hour}, NoHour(hour))
        check_error(self, fall, {"lot": ONE, "prices": (0,), "hour": 1}, NoHour(1))
        check_error(self, rise, {"lot": FULL, "prices": (0,) * 8, "hour": 8}, NoHour(8))

    def test_no_hour_in_a_set(self):
        for some, hour in (((3,), 3), ((0, 3), 3), ((-1,), -1), ((-2, -1, 0), -2), ((0, 1, 2, 3), 3), ((1, 3, 4), 3),
                           ((-1, 3), -1), ((0, BIG), BIG), ((-BIG, BIG), -BIG), ((3, 4, 5), 3)):
            for lot in (NEAR, NONE):
                check_error(self, asked_of, {"lot": lot, "some": some}, NoHour(hour))

    def test_orders_that_are_none(self):
        for order in ((), (0,), (0, 1), (0, 1, 2, 3), (0, 0, 1), (0, 1, 1), (1, 2, 3), (-1, 0, 1), (0, 1, 3), (2, 2, 2),
                      (0, 1, BIG), (0, 1, -BIG), (0, 1, 2, 2), (0, 1, 2, 0), (0, 1, None), (0, "1", 2), (0, 1, (2,)),
                      (0, True, 2), (None, None, None), None):
            check_error(self, never_dearer_in, {"one": NEST, "other": NEAR, "order": order}, Unfit())
            check_error(self, never_dearer_in, {"one": NEAR, "other": NEAR, "order": order}, Unfit())
        check_error(self, never_dearer_in, {"one": ONE, "other": ONE, "order": (1,)}, Unfit())
        check_error(self, never_dearer_in, {"one": FULL, "other": FULL, "order": (0, 1, 2, 3, 4, 5, 6, 6)}, Unfit())

    def test_unlike(self):
        for other in OTHER_HOURS:
            for one, its in ((NEAR, other), (other, NEAR), (NONE, other)):
                values = {"one": one, "other": its}
                for function in (excess, excess_hours, how_many_orders):
                    check_error(self, function, values, Unlike())
                for most in (0, 1, 7):
                    check_error(self, excess, {**values, "most": most}, Unlike())
                for order in ((), (0,), (0, 1, 2), (0, 0, 0), tuple(range(its[0])), (5, BIG)):
                    check_error(self, never_dearer_in, {**values, "order": order}, Unlike())

    def test_no_error_where_it_fits(self):
        for given in in_all_forms({"lot": NEAR, "prices": (2, 5, 1)}):
            for thing in JUNK:
                self.assertIs(is_cheapest(**given, thing=thing), False)


if __name__ == "__main__":
    unittest.main()
