"""Promise [13]: prices that tell a LOT."""

import itertools
import random
import unittest

from anyhands import telling
from anyhands.errors import Unfit
from anyhands.lots import added, all_work, is_lot, times_over
from anyhands.prices import cheapest, is_prices
from anyhands.roster import Roster
from anyhands.tables import table_of
from anyhands.telling import (
    bills_of, blind_pair, fewest_rows, is_blind_pair, lot_by_bills, prices_of, seen, telling_rows, unseen, weights_of,
)
from tests.support import (
    BIG, JUNK, asked_by_hours, check_error, check_same, check_thing, check_value, grid, hours_in, lots_of_work, nearly,
    nested, pieces_of, run_examples, small_lots, some_lot, stretches, written_as,
)

EXAMPLES = """
    >>> near, nest = (3, (((0, 1), 1), ((1, 2), 1))), (3, (((0, 2), 1), ((1, 1), 1)))
    >>> weights_of((2, 5, 1)), seen((2, 2, 0)), seen((0, 0, 0)), seen((3, 0, 3))
    ((((0, 1), 1), ((0, 2), 1), ((1, 1), 3)), ((0, 1),), (), ((0, 0), (2, 2)))
    >>> prices_of(3, (((0, 1), 1), ((0, 2), 1), ((1, 1), 3))), prices_of(3, (((0, 0), 1), ((2, 2), 4))), prices_of(3, (((0, 0), 1), ((1, 1), 1))), prices_of(2, ())
    ((2, 5, 1), (1, 0, 4), None, (0, 0))
    >>> [fewest_rows(hours) for hours in (1, 2, 3, 4, 8)], len(telling_rows(4, 9)), bills_of(near, ((2, 5, 1), (1, 1, 1))), bills_of(near, ())
    ([1, 2, 3, 3, 5], 3, (3, 2), ())
    >>> lot_by_bills(3, 5, bills_of(near, telling_rows(3, 5))) == near, lot_by_bills(3, 5, bills_of((3, ()), telling_rows(3, 5))), lot_by_bills(2, 4, (-1, 0))
    (True, (3, ()), None)
    >>> unseen(3, ((2, 5, 1),)), unseen(2, ((1, 1), (2, 1))), blind_pair(2, telling_rows(2, 3)), is_blind_pair(3, ((2, 5, 1),), blind_pair(3, ((2, 5, 1),)))
    (((0, 0), (1, 2), (2, 2)), ((1, 1),), None, True)
    >>> is_blind_pair(3, ((1, 1, 1),), (near, nest)), is_blind_pair(3, ((2, 5, 1),), (near, nest)), is_blind_pair(3, (), (near, near))
    (True, False, False)
    >>> bills_of(near, ((1, 1),))
    raises Unfit()
"""

NEAR, NEST = (3, (((0, 1), 1), ((1, 2), 1))), (3, (((0, 2), 1), ((1, 1), 1)))
NONE = (3, ())
WRONG_ROWS = (((),), ((1,),), ((1, 1),), ((1, 1, 1), (1, 1)), ((1, 1), (1, 1, 1)), ((0, 0, 0, 0),), ((1, 1, 1), ()),
              ((2, 5, 1), (0, 0, 0), (1, 2, 3, 4, 5, 6, 7, 8)))
SHAPE_OF_WEIGHTS = [((0, 0), 0)]


def plain_weight(prices, first, last):
    """The weight of the stretch, by the words of the document; 0 if it is not seen."""
    around = [prices[hour] for hour in (first - 1, last + 1) if 0 <= hour < len(prices)]
    own = [prices[hour] for hour in hours_in((first, last))]
    if not all(price > 0 and all(price > other for other in around) for price in own):
        return 0
    return min(own) - max(around, default=0)


def plain_weights(prices):
    weights = ((stretch, plain_weight(prices, *stretch)) for stretch in stretches(len(prices)))
    return tuple((stretch, weight) for stretch, weight in weights if weight)


def plain_cost(lot, prices):
    return sum(work * min(prices[hour] for hour in hours_in(window)) for window, work in lot[1])


def plain_bills(lot, rows):
    return tuple(plain_cost(lot, row) for row in rows)


def small_prices():
    for hours, most in ((1, 5), (2, 4), (3, 3), (4, 3), (5, 2)):
        yield from grid(hours, most)


def sets_seen(hours):
    """The sets of stretches that can be seen by one row, each as the number with the bits of their places."""
    places = {stretch: 1 << at for at, stretch in enumerate(stretches(hours))}
    return sorted({sum(places[stretch] for stretch, _ in plain_weights(row)) for row in grid(hours, hours)})


def can_see_all(hours, many):
    """Whether so many rows can be chosen such that each stretch is seen, by trying all."""
    every = (1 << len(stretches(hours))) - 1
    kept = sets_seen(hours)
    # Who sees more is as good as who sees less.
    kept = [own for own in kept if not any(own != other and own & other == own for other in kept)]
    reached = {0}
    for _ in range(many):
        reached = {own | other for own in reached for other in kept}
    return every in reached


class Examples(unittest.TestCase):

    def test_those_of_the_document(self):
        run_examples(self, EXAMPLES, vars(telling))


class Weights(unittest.TestCase):

    def test_weights_and_seen(self):
        for prices in small_prices():
            expected = plain_weights(prices)
            self.assertEqual(weights_of(prices), expected)
            self.assertEqual(seen(prices), tuple(stretch for stretch, _ in expected))
            self.assertTrue(written_as(SHAPE_OF_WEIGHTS, weights_of(prices)))
            self.assertTrue(written_as([(0, 0)], seen(prices)))

    def test_one_within_the_other_or_an_hour_between(self):
        for prices in small_prices():
            for one, other in itertools.combinations(seen(prices), 2):
                hours = hours_in(one)
                apart = one[1] + 1 < other[0]
                self.assertTrue(apart or hours <= hours_in(other) or hours >= hours_in(other))

    def test_cost_is_the_sum_of_weight_times_asked(self):
        for hours, lots, most in ((1, small_lots(1, 3), 4), (2, small_lots(2, 2), 3), (3, small_lots(3, 1), 3),
                                  (4, lots_of_work(4, 2), 2)):
            rows = [(prices, weights_of(prices)) for prices in grid(hours, most)]
            for lot in lots:
                for prices, weights in rows:
                    asked = sum(weight * asked_by_hours(lot, hours_in(stretch)) for stretch, weight in weights)
                    self.assertEqual(cheapest(lot, prices), asked)
                    self.assertEqual(plain_cost(lot, prices), asked)

    def test_there_and_back(self):
        for prices in small_prices():
            self.assertEqual(prices_of(len(prices), weights_of(prices)), prices)

    def test_none_for_all_other_weights(self):
        for hours, most in ((1, 4), (2, 3), (3, 2), (4, 1)):
            # A price has at most the sum of as many weights as there are hours.
            known = {weights_of(prices): prices for prices in grid(hours, most * hours)}
            every = stretches(hours)
            for row in itertools.product(range(most + 1), repeat=len(every)):
                weights = tuple((stretch, weight) for stretch, weight in zip(every, row) if weight)
                self.assertEqual(prices_of(hours, weights), known.get(weights), (hours, weights))

    def test_edges(self):
        for hours in (1, 4, 8):
            check_value(self, seen, {"prices": (0,) * hours}, ())
            check_value(self, weights_of, {"prices": (0,) * hours}, ())
            check_value(self, prices_of, {"hours": hours, "weights": ()}, (0,) * hours)
            check_value(self, weights_of, {"prices": (7,) * hours}, (((0, hours - 1), 7),))
            check_value(self, prices_of, {"hours": hours, "weights": (((0, hours - 1), BIG),)}, (BIG,) * hours)
        check_value(self, weights_of, {"prices": (3, 1, 3, 0, 1, 2, 2, 1)},
                    (((0, 0), 2), ((0, 2), 1), ((2, 2), 2), ((4, 7), 1), ((5, 6), 1)))
        check_value(self, seen, {"prices": (3, 0, 3)}, ((0, 0), (2, 2)))
        great = BIG ** 4
        check_value(self, weights_of, {"prices": (great, great + 1)}, (((0, 1), great), ((1, 1), 1)))
        check_value(self, prices_of, {"hours": 2, "weights": (((0, 1), great), ((1, 1), 1))}, (great, great + 1))
        check_value(self, prices_of, {"hours": 2, "weights": (((0, 0), 1), ((0, 1), great), ((1, 1), 1))}, None)
        for prices in ((2, 5, 1), (0, 0, 4), (1, 2, 1, 2)):
            check_same(self, seen, {"prices": prices})
            weights = check_same(self, weights_of, {"prices": prices})
            check_same(self, prices_of, {"hours": len(prices), "weights": weights})

    def test_eight_hours_by_chance(self):
        chance = random.Random(13)
        for _ in range(200):
            prices = tuple(chance.randint(0, 5) * chance.choice((1, 1, BIG)) for _ in range(8))
            self.assertEqual(weights_of(prices), plain_weights(prices))
            self.assertEqual(prices_of(8, weights_of(prices)), prices)
            lot = some_lot(chance, 8, 9, 5)
            asked = [weight * asked_by_hours(lot, hours_in(stretch)) for stretch, weight in weights_of(prices)]
            self.assertEqual(cheapest(lot, prices), sum(asked))


class Bills(unittest.TestCase):

    def test_bills(self):
        rows = tuple(grid(3, 1))
        for lot in small_lots(3, 1):
            self.assertEqual(bills_of(lot, rows), plain_bills(lot, rows))
        check_value(self, bills_of, {"lot": NEAR, "rows": ()}, ())
        check_value(self, bills_of, {"lot": NONE, "rows": ((1, 2, 3), (0, 0, BIG))}, (0, 0))
        check_value(self, bills_of, {"lot": (1, (((0, 0), BIG),)), "rows": ((BIG ** 3,), (0,))}, (BIG ** 4, 0))
        check_value(self, bills_of, {"lot": NEAR, "rows": ((2, 5, 1),) * 3}, (3, 3, 3))

    def test_unfit(self):
        for rows in WRONG_ROWS:
            for lot in (NEAR, NONE):
                check_error(self, bills_of, {"lot": lot, "rows": rows}, Unfit())


class TellingRows(unittest.TestCase):

    def test_fewest_rows(self):
        self.assertEqual([fewest_rows(hours) for hours in range(1, 9)], [1, 2, 3, 3, 4, 4, 5, 5])
        for hours in range(1, 9):
            check_value(self, fewest_rows, {"hours": hours}, 1 if hours == 1 else hours // 2 + 1 + hours % 2)

    def test_fewer_rows_leave_a_stretch_unseen(self):
        for hours in range(1, 6):
            self.assertTrue(can_see_all(hours, fewest_rows(hours)))
            self.assertFalse(can_see_all(hours, fewest_rows(hours) - 1))

    def test_rows(self):
        for hours, most in itertools.product(range(1, 9), (2, 3, 9, BIG, BIG ** 3)):
            rows = check_same(self, telling_rows, {"hours": hours, "most": most})
            self.assertIsInstance(rows, tuple)
            self.assertEqual(len(rows), fewest_rows(hours))
            for row in rows:
                self.assertIs(is_prices(hours, row), True)
            self.assertEqual(unseen(hours, rows), ())
            self.assertIsNone(blind_pair(hours, rows))

    def test_unlike_lots_have_unlike_bills(self):
        for hours, most in ((1, 9), (2, 5), (3, 3), (4, 3), (5, 2), (6, 2), (8, 2)):
            rows = telling_rows(hours, most)
            lots = list(lots_of_work(hours, most))
            self.assertEqual(len({plain_bills(lot, rows) for lot in lots}), len(lots))
            for lot in lots:
                self.assertEqual(lot_by_bills(hours, most, bills_of(lot, rows)), lot)

    def test_none_for_bills_of_none(self):
        for hours, most, above in ((1, 4, 9), (2, 2, 12), (2, 3, 20), (3, 2, 27)):
            rows = telling_rows(hours, most)
            known = {plain_bills(lot, rows): lot for lot in lots_of_work(hours, most)}
            self.assertLess(max(max(bills) for bills in known), above)
            for bills in itertools.product(range(-1, above), repeat=len(rows)):
                self.assertEqual(lot_by_bills(hours, most, bills), known.get(bills), (hours, most, bills))

    def test_more_work_than_most(self):
        chance = random.Random(15)
        for hours, most in ((1, 2), (3, 2), (4, 4), (8, 3)):
            rows = telling_rows(hours, most)
            for _ in range(40):
                lot = some_lot(chance, hours, most + chance.randint(1, 3))
                told = lot_by_bills(hours, most, bills_of(lot, rows))
                if told is not None:
                    self.assertLessEqual(all_work(told), most)
                    self.assertEqual(plain_bills(told, rows), plain_bills(lot, rows))
        check_value(self, lot_by_bills, {"hours": 1, "most": 4, "bills": (5,)}, None)

    def test_great_numbers(self):
        chance = random.Random(16)
        for most in (BIG, BIG ** 3):
            for hours in (1, 4, 7, 8):
                lot = some_lot(chance, hours, 9, most // 9)
                bills = bills_of(lot, telling_rows(hours, most))
                check_value(self, lot_by_bills, {"hours": hours, "most": most, "bills": bills}, lot)
                wrong = bills[:-1] + (bills[-1] + 10 * most ** 9,)
                self.assertIsNone(lot_by_bills(hours, most, wrong))
                self.assertIsNone(lot_by_bills(hours, most, (-BIG ** 4,) + bills[1:]))

    def test_forms(self):
        for hours in (1, 2, 5):
            for bills in ((0,) * fewest_rows(hours), (3,) * fewest_rows(hours), (-1,) * fewest_rows(hours)):
                check_same(self, lot_by_bills, {"hours": hours, "most": 3, "bills": bills})


class Unseen(unittest.TestCase):

    def sets_of_rows(self):
        for hours, most, many in ((1, 2, 2), (2, 2, 2), (3, 2, 1), (3, 1, 2), (4, 2, 1)):
            for length in range(many + 1):
                yield from ((hours, rows) for rows in itertools.product(grid(hours, most), repeat=length))
        chance = random.Random(17)
        for _ in range(60):
            hours = chance.randint(3, 8)
            yield hours, tuple(tuple(chance.randint(0, 4) for _ in range(hours)) for _ in range(chance.randint(2, 4)))

    def test_unseen_and_blind_pair(self):
        for hours, rows in self.sets_of_rows():
            known = {stretch for row in rows for stretch, _ in plain_weights(row)}
            dark = tuple(stretch for stretch in stretches(hours) if stretch not in known)
            self.assertEqual(unseen(hours, rows), dark)
            pair = blind_pair(hours, rows)
            if not dark:
                self.assertIsNone(pair)
                continue
            self.check_pair(hours, rows, dark, pair)

    def check_pair(self, hours, rows, dark, pair):
        self.assertIsInstance(pair, tuple)
        one, other = pair
        self.assertTrue(is_lot(one) and is_lot(other) and one[0] == other[0] == hours)
        pairs = zip(stretches(hours), table_of(one), table_of(other))
        unlike = [stretch for stretch, number, its in pairs if number != its]
        self.assertEqual(len(unlike), 1)
        self.assertIn(unlike[0], dark)
        self.assertEqual(plain_bills(one, rows), plain_bills(other, rows))
        self.assertLessEqual(max(all_work(one), all_work(other)), 2)
        self.assertIs(is_blind_pair(hours, rows, pair), True)

    def test_each_stretch_alone_unseen(self):
        for hours in range(1, 9):
            rows = [row for row in telling_rows(hours, 2)]
            for stretch in stretches(hours):
                weights = [tuple(own for own in weights_of(row) if own[0] != stretch) for row in rows]
                alone = tuple(prices_of(hours, own) for own in weights)
                self.assertEqual(unseen(hours, alone), (stretch,))
                self.check_pair(hours, alone, (stretch,), blind_pair(hours, alone))

    def test_is_blind_pair(self):
        lots = list(lots_of_work(3, 2))
        for rows in ((), ((1, 1, 1),), ((2, 5, 1),), ((2, 5, 1), (1, 0, 3)), telling_rows(3, 2), ((0, 0, 0),)):
            for one, other in itertools.product(lots, repeat=2):
                expected = one != other and plain_bills(one, rows) == plain_bills(other, rows)
                self.assertIs(is_blind_pair(3, rows, (one, other)), expected)

    def test_forms(self):
        for rows in ((), ((1, 1, 1),), ((2, 5, 1), (1, 0, 3)), telling_rows(3, 2)):
            check_same(self, unseen, {"hours": 3, "rows": rows})
            check_same(self, blind_pair, {"hours": 3, "rows": rows})
        check_value(self, unseen, {"hours": 1, "rows": ()}, ((0, 0),))
        check_value(self, unseen, {"hours": 1, "rows": ((BIG,),)}, ())
        check_value(self, unseen, {"hours": 8, "rows": ((0,) * 8,)}, tuple(stretches(8)))
        check_value(self, blind_pair, {"hours": 1, "rows": ((1,),)}, None)

    def test_things_nearly_blind_pairs(self):
        for rows, pair in (((), (NEAR, NEST)), (((1, 1, 1),), (NEAR, NEST)),
                           (((2, 5, 1),), ((3, (((2, 2), 1),)), (3, (((1, 2), 1),))))):
            check_thing(self, is_blind_pair, {"hours": 3, "rows": rows}, pair, True)
            for thing in nearly(pair):
                with self.subTest(rows=rows, thing=thing):
                    fits = isinstance(thing, tuple) and len(thing) == 2
                    fits = fits and all(is_lot(own) and own[0] == 3 for own in thing) and thing[0] != thing[1]
                    expected = fits and plain_bills(thing[0], rows) == plain_bills(thing[1], rows)
                    self.assertIs(is_blind_pair(3, rows, thing), expected)

    def test_others(self):
        values = {"hours": 3, "rows": ((1, 1, 1),)}
        great = times_over(NEAR, BIG ** 3)
        check_thing(self, is_blind_pair, values, (great, times_over(NEST, BIG ** 3)), True)
        check_thing(self, is_blind_pair, values, (great, added(times_over(NEST, BIG ** 3), NEAR)), False)
        for thing in (*JUNK, [NEAR, NEST], (NEAR,), (NEAR, NEST, NEST), (NEAR, NEAR), (NEAR, NONE),
                      (NEAR, (4, NEST[1])), ((2, ()), (2, ())), ((4, NEAR[1]), (4, NEST[1])), (list(NEAR), NEST),
                      (NEAR, None), (NEAR, "3: -"), (3, NEAR[1]), (NEAR, Roster(3)), Roster(3), (Roster(3), Roster(3)),
                      ((3, ()), (3, [])), (NEAR, (3, (((1, 1), 1), ((0, 2), 1)))),
                      (NEAR, (3, (((0, 2), True), ((1, 1), 1))))):
            check_thing(self, is_blind_pair, values, thing, False)
        check_thing(self, is_blind_pair, {"hours": 2, "rows": ()}, (NEAR, NEST), False)
        for depth in range(1, 8):
            self.assertIs(is_blind_pair(3, (), nested((NEAR, NEST), depth)), False)

    def test_unfit(self):
        for rows in WRONG_ROWS:
            for function in (unseen, blind_pair):
                check_error(self, function, {"hours": 3, "rows": rows}, Unfit())
            for thing in (*JUNK, (NEAR, NEST), ((2, ()), (2, (((0, 1), 1),)))):
                check_error(self, is_blind_pair, {"hours": 3, "rows": rows, "thing": thing}, Unfit())


class Pieces(unittest.TestCase):

    def test_what_the_search_uses(self):
        # plain_cost by errands is what the pieces cost one by one.
        for lot in lots_of_work(3, 2):
            for prices in grid(3, 2):
                pieces = sum(min(prices[first:last + 1]) for first, last in pieces_of(lot))
                self.assertEqual(plain_cost(lot, prices), pieces)


if __name__ == "__main__":
    unittest.main()
