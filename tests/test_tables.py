"""Promise [5]: stretches, what they ask, and tables."""

import itertools
import unittest

from anyhands import tables
from anyhands.errors import NoStretch
from anyhands.lots import all_work, behind, put_in, times_over, work_in
from anyhands.tables import (
    all_stretches, asked, is_stretch, is_table, lies_within, lot_of, singles, table_of,
)
from tests.support import (
    BIG, check_error, check_value, in_all_forms, nearly, nested, part_at, places, run_examples, small_lots, with_part,
)

EXAMPLES = """
    >>> lot = (3, (((0, 0), 2), ((0, 2), 1), ((1, 2), 4)))
    >>> all_stretches(3), table_of(lot), asked(lot, 0, 2), asked(lot, 1, 1)
    ([(0, 0), (0, 1), (0, 2), (1, 1), (1, 2), (2, 2)], (2, 2, 7, 0, 4, 0), 7, 0)
    >>> singles(3, (2, 2, 7, 0, 4, 0)), lot_of(3, (2, 2, 7, 0, 4, 0)) == lot, singles(2, (1, 1, 1)), singles(1, (-5,))
    ((2, 0, 1, 0, 4, 0), True, (1, -1, 1), (-5,))
    >>> lot_of(2, (1, 3, 1)), lot_of(2, (1, 1, 1)), lot_of(1, (5,)), is_table(2, (1, 3, 1)), is_table(2, (1, 1, 1)), is_table(2, (1, 3))
    ((2, (((0, 0), 1), ((0, 1), 1), ((1, 1), 1))), None, (1, (((0, 0), 5),)), True, False, False)
    >>> is_stretch(3, (1, 2)), is_stretch(3, (2, 1)), is_stretch(3, (1, 3)), lies_within((1, 1), (0, 1)), lies_within((0, 1), (1, 2))
    (True, False, False, True, False)
    >>> asked(lot, 2, 1)
    raises NoStretch(first=2, last=1)
"""

LOT = (3, (((0, 0), 2), ((0, 2), 1), ((1, 2), 4)))
TABLE = (2, 2, 7, 0, 4, 0)
EIGHT = (8, tuple(((first, last), BIG - 8 * first - last) for first in range(8) for last in range(first, 8)))


def stretches(hours):
    return [(first, last) for first in range(hours) for last in range(first, hours)]


def hours_in(stretch):
    return set(range(stretch[0], stretch[1] + 1))


def table_by_hours(lot):
    return tuple(sum(work for window, work in lot[1] if hours_in(window) <= hours_in(stretch))
                 for stretch in stretches(lot[0]))


class Examples(unittest.TestCase):

    def test_those_of_the_document(self):
        run_examples(self, EXAMPLES, vars(tables))


class Stretches(unittest.TestCase):

    def test_is_stretch(self):
        for hours in range(1, 9):
            for first, last in itertools.product(range(-2, 11), repeat=2):
                expected = 0 <= first and first <= last and last <= hours - 1
                self.assertIs(is_stretch(hours, (first, last)), expected)
        self.assertIs(is_stretch(hours=1, thing=(0, 0)), True)

    def test_great_numbers(self):
        for thing in ((0, BIG), (-BIG, 0), (BIG, BIG), (BIG, -BIG), (-BIG, BIG)):
            self.assertIs(is_stretch(8, thing), False)
        self.assertIs(is_stretch(9, (0, 8)), True)
        self.assertIs(is_stretch(BIG, (0, BIG - 1)), True)
        self.assertIs(is_stretch(BIG, (0, BIG)), False)

    def test_another_kind_or_another_length(self):
        for stretch in ((0, 0), (0, 1), (1, 1), (3, 7)):
            for thing in nearly(stretch):
                with self.subTest(thing=thing):
                    self.assertIs(is_stretch(8, thing), False)
        for thing in ((False, True), (0, True), (False, 0), [0, 1], (0, 1, 1), (1,), (), 0, "01", ("0", "1")):
            self.assertIs(is_stretch(8, thing), False)

    def test_deep_things(self):
        for depth in range(1, 12):
            self.assertIs(is_stretch(8, nested((0, 1), depth)), False)

    def test_all_stretches(self):
        for hours in range(1, 9):
            found = all_stretches(hours)
            self.assertEqual(found, sorted(set(found)))
            self.assertEqual(found, stretches(hours))
            self.assertEqual(len(found), hours * (hours + 1) // 2)
            self.assertEqual(all_stretches(hours=hours), found)
        check_value(self, all_stretches, {"hours": 1}, [(0, 0)])
        check_value(self, all_stretches, {"hours": 2}, [(0, 0), (0, 1), (1, 1)])

    def test_the_list_is_new(self):
        found = all_stretches(3)
        found.append(None)
        found[0] = None
        self.assertEqual(all_stretches(3), stretches(3))
        self.assertIsNot(all_stretches(3), all_stretches(3))

    def test_lies_within(self):
        for one in stretches(4):
            for other in stretches(4):
                self.assertIs(lies_within(one, other), hours_in(one) <= hours_in(other))
        check_value(self, lies_within, {"one": (1, 1), "other": (0, 1)}, True)
        check_value(self, lies_within, {"one": (0, 1), "other": (1, 1)}, False)
        check_value(self, lies_within, {"one": (2, 2), "other": (2, 2)}, True)
        check_value(self, lies_within, {"one": (0, 7), "other": (1, 7)}, False)
        check_value(self, lies_within, {"one": (0, 0), "other": (7, 7)}, False)


class Asked(unittest.TestCase):

    def test_each_stretch(self):
        for stretch, number in zip(stretches(3), TABLE):
            check_value(self, asked, {"lot": LOT, "first": stretch[0], "last": stretch[1]}, number)
        check_value(self, asked, {"lot": (1, ()), "first": 0, "last": 0}, 0)
        check_value(self, asked, {"lot": EIGHT, "first": 0, "last": 7}, all_work(EIGHT))
        check_value(self, asked, {"lot": EIGHT, "first": 7, "last": 7}, BIG - 63)

    def test_what_is_no_stretch(self):
        for first, last in ((2, 1), (1, 0), (-1, 0), (0, 3), (3, 3), (-1, 3), (-2, -1), (0, BIG), (-BIG, 2)):
            check_error(self, asked, {"lot": LOT, "first": first, "last": last}, NoStretch(first, last))
        check_error(self, asked, {"lot": (1, ()), "first": 1, "last": 1}, NoStretch(1, 1))
        check_error(self, asked, {"lot": EIGHT, "first": 7, "last": 8}, NoStretch(7, 8))

    def test_table_of(self):
        check_value(self, table_of, {"lot": LOT}, TABLE)
        check_value(self, table_of, {"lot": (1, ())}, (0,))
        check_value(self, table_of, {"lot": (1, (((0, 0), BIG),))}, (BIG,))
        check_value(self, table_of, {"lot": (3, ())}, (0, 0, 0, 0, 0, 0))
        check_value(self, table_of, {"lot": EIGHT}, table_by_hours(EIGHT))
        for hours in (1, 2, 3):
            for lot in small_lots(hours, 2 if hours < 3 else 1):
                self.assertEqual(table_of(lot), table_by_hours(lot))

    def test_tables_of_great_lots(self):
        great = times_over(EIGHT, BIG)
        self.assertEqual(table_of(great), tuple(number * BIG for number in table_of(EIGHT)))
        nine = put_in(EIGHT, 8)
        self.assertEqual(table_of(nine), table_by_hours(nine))


class Singles(unittest.TestCase):

    def test_tables_of_lots(self):
        for lot in (LOT, EIGHT, behind(EIGHT), times_over(EIGHT, BIG), (8, ()), (1, ())):
            works = tuple(work_in(lot, first, last) for first, last in stretches(lot[0]))
            check_value(self, singles, {"hours": lot[0], "table": table_of(lot)}, works)

    def test_any_tables(self):
        check_value(self, singles, {"hours": 1, "table": (-5,)}, (-5,))
        check_value(self, singles, {"hours": 1, "table": (0,)}, (0,))
        check_value(self, singles, {"hours": 2, "table": (1, 1, 1)}, (1, -1, 1))
        check_value(self, singles, {"hours": 2, "table": (-BIG, BIG, -BIG)}, (-BIG, 3 * BIG, -BIG))
        table = (1, 20, 300, 4000, 50000, 600000)
        check_value(self, singles, {"hours": 3, "table": table},
                    (1, 20 - 1 - 4000, 300 - 20 - 50000 + 4000, 4000, 50000 - 4000 - 600000, 600000))

    def test_by_the_words_of_the_document(self):
        for hours in range(1, 9):
            table = tuple((-1) ** at * (7 * at * at + 3) * BIG // 10 for at in range(len(stretches(hours))))
            numbers = dict(zip(stretches(hours), table))

            def number(first, last):
                return 0 if first > last else numbers[(first, last)]

            expected = tuple(number(first, last) - number(first + 1, last) - number(first, last - 1)
                             + number(first + 1, last - 1) for first, last in stretches(hours))
            self.assertEqual(singles(hours, table), expected)

    def test_they_sum_up_to_the_table(self):
        for hours, table in ((3, (5, -4, 3, -2, 1, 0)), (4, tuple(range(-5, 5)))):
            found = dict(zip(stretches(hours), singles(hours, table)))
            sums = [sum(found[own] for own in found if hours_in(own) <= hours_in(stretch))
                    for stretch in stretches(hours)]
            self.assertEqual(tuple(sums), table)

    def test_returned_values_are_passed_in_again(self):
        table = (BIG, -BIG, BIG, BIG, -BIG, BIG)
        for _ in range(3):
            table = singles(3, table)
        self.assertGreater(max(table), BIG)


class LotOf(unittest.TestCase):

    def test_lots(self):
        check_value(self, lot_of, {"hours": 3, "table": TABLE}, LOT)
        check_value(self, lot_of, {"hours": 2, "table": (1, 3, 1)}, (2, (((0, 0), 1), ((0, 1), 1), ((1, 1), 1))))
        check_value(self, lot_of, {"hours": 1, "table": (5,)}, (1, (((0, 0), 5),)))
        check_value(self, lot_of, {"hours": 1, "table": (0,)}, (1, ()))
        check_value(self, lot_of, {"hours": 8, "table": (0,) * 36}, (8, ()))
        check_value(self, lot_of, {"hours": 8, "table": table_of(EIGHT)}, EIGHT)
        great = times_over(EIGHT, BIG)
        check_value(self, lot_of, {"hours": 8, "table": table_of(great)}, great)

    def test_none(self):
        check_value(self, lot_of, {"hours": 2, "table": (1, 1, 1)}, None)
        check_value(self, lot_of, {"hours": 1, "table": (-1,)}, None)
        check_value(self, lot_of, {"hours": 1, "table": (-BIG,)}, None)
        check_value(self, lot_of, {"hours": 2, "table": (BIG, 2 * BIG - 1, BIG)}, None)
        check_value(self, lot_of, {"hours": 2, "table": (BIG, 2 * BIG, BIG)}, (2, (((0, 0), BIG), ((1, 1), BIG))))
        for at in range(6):
            table = (0,) * at + (-1,) + (0,) * (5 - at)
            check_value(self, lot_of, {"hours": 3, "table": table}, None)

    def test_each_small_lot_comes_back(self):
        for hours in (1, 2, 3):
            for lot in small_lots(hours, 3 if hours < 3 else 1):
                self.assertEqual(lot_of(hours, table_of(lot)), lot)

    def test_each_small_table(self):
        lots = {table_by_hours(lot): lot for lot in small_lots(2, 5)}
        for table in itertools.product(range(-2, 6), repeat=3):
            self.assertEqual(lot_of(2, table), lots.get(table))
            self.assertIs(is_table(2, table), table in lots)


class IsTable(unittest.TestCase):

    def test_tables(self):
        for lot in (LOT, EIGHT, (1, ()), (8, ())):
            self.assertIs(is_table(lot[0], table_of(lot)), True)
        self.assertIs(is_table(hours=3, thing=TABLE), True)

    def test_tables_beyond_the_bounds(self):
        for lot in (times_over(EIGHT, BIG), put_in(EIGHT, 3), (11, ())):
            self.assertIs(is_table(lot[0], table_of(lot)), True)
        self.assertIs(is_table(BIG, (0,)), False)

    def test_singles_below_zero(self):
        table = table_of(EIGHT)
        for at, single in enumerate(singles(8, table)):
            self.assertIs(is_table(8, with_part(table, (at,), table[at] - single - 1)), False)
        for thing in ((-1,), (-BIG,)):
            self.assertIs(is_table(1, thing), False)

    def test_another_length(self):
        for hours in range(1, 9):
            for length in range(40):
                self.assertIs(is_table(hours, (0,) * length), length == hours * (hours + 1) // 2)

    def test_another_kind(self):
        for hours, table in ((3, TABLE), (1, (0,)), (1, (1,)), (2, (0, 1, 1))):
            for thing in nearly(table):
                with self.subTest(hours=hours, thing=thing):
                    # (0,) is among the junk, and it is the table of the LOT (1, ()).
                    self.assertIs(is_table(hours, thing), (hours, repr(thing)) == (1, "(0,)"))

    def test_true_for_a_number(self):
        for place in places(TABLE):
            if place:
                self.assertIs(is_table(3, with_part(TABLE, place, bool(part_at(TABLE, place)))), False)
        self.assertIs(is_table(1, (True,)), False)
        self.assertIs(is_table(1, (False,)), False)
        self.assertIs(is_table(2, (0, True, 0)), False)

    def test_lists_for_tuples(self):
        for form in list(in_all_forms({"table": TABLE}))[1:3]:
            self.assertIs(is_table(3, form["table"]), False)

    def test_deep_things(self):
        for depth in range(1, 12):
            self.assertIs(is_table(3, nested(TABLE, depth)), False)


if __name__ == "__main__":
    unittest.main()
