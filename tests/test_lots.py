"""Promise [4]: LOTs and their windows, with the bounds and terms of [2] and [3]."""

import itertools
import unittest

from anyhands import lots
from anyhands.errors import NoHour, NoStretch, Unlike
from anyhands.lots import (
    added, all_work, behind, hours_of, is_lot, joined, made_lot, put_in, times_over, work_in,
)
from tests.support import (
    BIG, check_error, check_value, in_all_forms, nearly, nested, run_examples, small_lots,
)

EXAMPLES = """
    >>> lot = (4, (((0, 1), 3), ((1, 1), 1), ((1, 3), 2)))
    >>> hours_of(lot), all_work(lot), work_in(lot, 1, 3), work_in(lot, 0, 3)
    (4, 6, 2, 0)
    >>> made_lot(4, (((1, 3), 2), ((0, 1), 1), ((1, 1), 1), ((2, 2), 0), ((0, 1), 2))) == lot, made_lot(1, ())
    (True, (1, ()))
    >>> behind(lot), joined(lot, 1), joined(lot, 0)
    ((4, (((0, 2), 2), ((2, 2), 1), ((2, 3), 3))), (3, (((0, 1), 3), ((1, 1), 1), ((1, 2), 2))), (3, (((0, 0), 4), ((0, 2), 2))))
    >>> put_in(lot, 1), put_in(lot, 2), put_in(lot, 4)
    ((5, (((0, 2), 3), ((2, 2), 1), ((2, 4), 2))), (5, (((0, 1), 3), ((1, 1), 1), ((1, 4), 2))), (5, (((0, 1), 3), ((1, 1), 1), ((1, 3), 2))))
    >>> added(lot, lot) == times_over(lot, 2), times_over(lot, 0)
    (True, (4, ()))
    >>> is_lot(lot), is_lot((1, ())), is_lot((0, ())), is_lot((3, (((1, 0), 1),))), is_lot((3, (((0, 1), 0),))), is_lot((3, (((0, 3), 1),)))
    (True, True, False, False, False, False)
    >>> work_in(lot, 2, 1)
    raises NoStretch(first=2, last=1)
    >>> joined(lot, 3)
    raises NoHour(hour=3)
"""

LOT = (4, (((0, 1), 3), ((1, 1), 1), ((1, 3), 2)))
FULL = (8, tuple(((first, last), BIG - 8 * first - last) for first in range(8) for last in range(first, 8)))
NONE = (1, ())
ONE = (1, (((0, 0), BIG),))

WRONG_STRETCHES = ((2, 1), (1, 0), (-1, 0), (-1, 9), (0, 4), (4, 4), (3, 4), (-2, -1), (0, BIG), (-BIG, 0), (BIG, -BIG))


def hours_in(window):
    return set(range(window[0], window[1] + 1))


def by_hours(hours, pairs):
    """The LOT of pairs (hours of the window, work), each a run of hours, made in a way of its own."""
    windows = [(first, last) for first in range(hours) for last in range(first, hours)]
    works = [sum(work for inside, work in pairs if inside == hours_in(window)) for window in windows]
    return hours, tuple((window, work) for window, work in zip(windows, works) if work)


def written_as_a_lot(thing):
    """Whether thing is a LOT, told by writing out anew the numbers in it."""
    try:
        hours, errands = thing
        works = {(first, last): work for (first, last), work in errands}
        anew = hours + 0, tuple(((first + 0, last + 0), work + 0) for (first, last), work in sorted(works.items()))
    except (TypeError, ValueError):
        return False
    if repr(anew) != repr(thing) or hours < 1:
        return False
    return all(0 <= first <= last < hours and work > 0 for (first, last), work in works.items())


class Examples(unittest.TestCase):

    def test_those_of_the_document(self):
        run_examples(self, EXAMPLES, vars(lots))


class IsLot(unittest.TestCase):

    def test_lots(self):
        for lot in (LOT, FULL, NONE, ONE, (8, ()), (2, (((0, 0), 1), ((0, 1), 1), ((1, 1), 1)))):
            self.assertIs(is_lot(lot), True)
            self.assertIs(is_lot(thing=lot), True)

    def test_lots_beyond_the_bounds(self):
        self.assertIs(is_lot((9, (((0, 8), 1), ((8, 8), 1)))), True)
        self.assertIs(is_lot((BIG * BIG, ())), True)
        self.assertIs(is_lot((BIG + 1, (((0, BIG), BIG ** 3), ((7, 7), 1), ((BIG, BIG), 2)))), True)
        self.assertIs(is_lot((BIG, (((0, BIG), 1),))), False)

    def test_all_small_lots(self):
        for hours in (1, 2, 3):
            for lot in small_lots(hours, 1):
                self.assertIs(is_lot(lot), True)

    def test_another_kind_or_another_length(self):
        for lot in (LOT, NONE, ONE, (2, (((0, 1), 1), ((1, 1), 1)))):
            for thing in nearly(lot):
                with self.subTest(thing=thing):
                    self.assertIs(is_lot(thing), written_as_a_lot(thing))

    def test_lists_for_tuples(self):
        for form in list(in_all_forms({"lot": LOT}))[1:]:
            with self.subTest(form=form):
                self.assertIs(is_lot(form["lot"]), False)
        self.assertIs(is_lot((1, [])), False)

    def test_true_for_a_number(self):
        for thing in ((True, ()), (1, (((False, 0), 1),)), (1, (((0, False), 1),)), (1, (((0, 0), True),)),
                      (2, (((0, True), 1),)), (False, ())):
            with self.subTest(thing=thing):
                self.assertIs(is_lot(thing), False)

    def test_hours_out_of_range(self):
        for hours in (0, -1, -BIG):
            self.assertIs(is_lot((hours, ())), False)
            self.assertIs(is_lot((hours, (((0, 0), 1),))), False)

    def test_windows_that_are_none(self):
        for window in WRONG_STRETCHES:
            with self.subTest(window=window):
                self.assertIs(is_lot((4, ((window, 1),))), False)
                self.assertIs(is_lot((4, (((0, 0), 1), (window, 1)))), False)
                self.assertIs(is_lot((4, ((window, 1), ((3, 3), 1)))), False)

    def test_work_below_one(self):
        for work in (0, -1, -BIG):
            self.assertIs(is_lot((4, (((0, 1), work),))), False)
            self.assertIs(is_lot((4, (((0, 1), 2), ((1, 3), work)))), False)

    def test_out_of_order(self):
        for errands in itertools.permutations(LOT[1]):
            self.assertIs(is_lot((4, errands)), errands == LOT[1])
        self.assertIs(is_lot((9, (((2, 2), 1), ((1, 8), 2)))), False)

    def test_a_window_twice(self):
        for errands in ((((0, 1), 1), ((0, 1), 2)), (((0, 1), 2), ((0, 1), 2)), (((0, 1), 2), ((0, 1), 1)),
                        (((0, 0), 1), ((0, 1), 1), ((0, 1), 2), ((1, 1), 1))):
            self.assertIs(is_lot((2, errands)), False)

    def test_deep_things(self):
        for depth in range(13):
            for inside in (None, 1, "", (), [], LOT):
                self.assertIs(is_lot(nested(inside, depth)), depth == 0 and inside == LOT)


class MadeLot(unittest.TestCase):

    def test_each_order_gives_the_same(self):
        errands = (((1, 3), 2), ((0, 1), 1), ((1, 1), 1), ((2, 2), 0), ((0, 1), 2))
        for order in itertools.permutations(errands):
            self.assertEqual(made_lot(4, order), LOT)

    def test_forms(self):
        check_value(self, made_lot, {"hours": 4, "errands": (((1, 3), 2), ((0, 1), 3), ((1, 1), 1))}, LOT)
        check_value(self, made_lot, {"hours": 3, "errands": ()}, (3, ()))
        check_value(self, made_lot, {"hours": 1, "errands": (((0, 0), BIG), ((0, 0), BIG))}, (1, (((0, 0), 2 * BIG),)))

    def test_work_of_zero_is_left_out(self):
        self.assertEqual(made_lot(2, (((0, 1), 0), ((0, 0), 0), ((0, 1), 0))), (2, ()))
        self.assertEqual(made_lot(2, (((0, 1), 0), ((0, 1), 5), ((0, 1), 0))), (2, (((0, 1), 5),)))

    def test_a_lot_is_made_of_its_own_errands(self):
        for hours, errands in (LOT, FULL, NONE, ONE, (9, (((0, 8), 1),))):
            self.assertEqual(made_lot(hours, errands), (hours, errands))
            self.assertEqual(made_lot(hours, errands[::-1]), (hours, errands))

    def test_a_window_that_is_no_stretch(self):
        for first, last in WRONG_STRETCHES:
            for work in (0, 1):
                errands = (((0, 3), 2), ((first, last), work), ((2, 2), 1))
                check_error(self, made_lot, {"hours": 4, "errands": errands}, NoStretch(first, last))

    def test_the_first_one_of_several(self):
        errands = (((0, 0), 1), ((3, 2), 0), ((0, 9), 5), ((-1, 0), 1))
        check_error(self, made_lot, {"hours": 4, "errands": errands}, NoStretch(3, 2))
        check_error(self, made_lot, {"hours": 4, "errands": errands[::-1]}, NoStretch(-1, 0))
        check_error(self, made_lot, {"hours": 1, "errands": (((0, 1), 0),)}, NoStretch(0, 1))


class Reading(unittest.TestCase):

    def test_hours_of(self):
        for lot, hours in ((LOT, 4), (NONE, 1), (FULL, 8), ((9, ()), 9)):
            check_value(self, hours_of, {"lot": lot}, hours)

    def test_all_work(self):
        for lot, work in ((LOT, 6), (NONE, 0), (ONE, BIG), ((8, ()), 0), (FULL, sum(pair[1] for pair in FULL[1]))):
            check_value(self, all_work, {"lot": lot}, work)

    def test_work_in(self):
        for first, last, work in ((0, 1, 3), (1, 1, 1), (1, 3, 2), (0, 3, 0), (0, 0, 0), (3, 3, 0), (1, 2, 0)):
            check_value(self, work_in, {"lot": LOT, "first": first, "last": last}, work)
        check_value(self, work_in, {"lot": ONE, "first": 0, "last": 0}, BIG)
        check_value(self, work_in, {"lot": NONE, "first": 0, "last": 0}, 0)
        for (first, last), work in FULL[1]:
            self.assertEqual(work_in(FULL, first, last), work)

    def test_work_in_what_is_no_stretch(self):
        for first, last in WRONG_STRETCHES:
            check_error(self, work_in, {"lot": LOT, "first": first, "last": last}, NoStretch(first, last))
        check_error(self, work_in, {"lot": NONE, "first": 0, "last": 1}, NoStretch(0, 1))
        check_error(self, work_in, {"lot": FULL, "first": 7, "last": 8}, NoStretch(7, 8))


class Hours(unittest.TestCase):

    def test_behind(self):
        expected = (4, (((0, 2), 2), ((2, 2), 1), ((2, 3), 3)))
        check_value(self, behind, {"lot": LOT}, expected)
        check_value(self, behind, {"lot": expected}, LOT)
        check_value(self, behind, {"lot": NONE}, NONE)
        check_value(self, behind, {"lot": ONE}, ONE)
        check_value(self, behind, {"lot": (8, ())}, (8, ()))
        check_value(self, behind, {"lot": (8, (((0, 0), 5), ((6, 7), 1)))}, (8, (((0, 1), 1), ((7, 7), 5))))

    def test_joined(self):
        check_value(self, joined, {"lot": LOT, "hour": 0}, (3, (((0, 0), 4), ((0, 2), 2))))
        check_value(self, joined, {"lot": LOT, "hour": 1}, (3, (((0, 1), 3), ((1, 1), 1), ((1, 2), 2))))
        check_value(self, joined, {"lot": LOT, "hour": 2}, (3, (((0, 1), 3), ((1, 1), 1), ((1, 2), 2))))
        check_value(self, joined, {"lot": (2, ()), "hour": 0}, (1, ()))
        both = (2, (((0, 0), BIG), ((0, 1), BIG), ((1, 1), 1)))
        check_value(self, joined, {"lot": both, "hour": 0}, (1, (((0, 0), 2 * BIG + 1),)))
        ends = (8, (((6, 6), 1), ((6, 7), 2), ((7, 7), 4)))
        check_value(self, joined, {"lot": ends, "hour": 6}, (7, (((6, 6), 7),)))

    def test_joined_without_both_hours(self):
        for hour in (3, 4, -1, -2, BIG, -BIG):
            check_error(self, joined, {"lot": LOT, "hour": hour}, NoHour(hour))
        for hour in (-1, 0, 1):
            check_error(self, joined, {"lot": ONE, "hour": hour}, NoHour(hour))
        check_error(self, joined, {"lot": FULL, "hour": 7}, NoHour(7))

    def test_put_in(self):
        check_value(self, put_in, {"lot": LOT, "hour": 0}, (5, (((1, 2), 3), ((2, 2), 1), ((2, 4), 2))))
        check_value(self, put_in, {"lot": LOT, "hour": 1}, (5, (((0, 2), 3), ((2, 2), 1), ((2, 4), 2))))
        check_value(self, put_in, {"lot": LOT, "hour": 2}, (5, (((0, 1), 3), ((1, 1), 1), ((1, 4), 2))))
        check_value(self, put_in, {"lot": LOT, "hour": 4}, (5, (((0, 1), 3), ((1, 1), 1), ((1, 3), 2))))
        check_value(self, put_in, {"lot": ONE, "hour": 0}, (2, (((1, 1), BIG),)))
        check_value(self, put_in, {"lot": ONE, "hour": 1}, (2, (((0, 0), BIG),)))
        check_value(self, put_in, {"lot": NONE, "hour": 1}, (2, ()))
        check_value(self, put_in, {"lot": (8, (((0, 7), 1),)), "hour": 7}, (9, (((0, 8), 1),)))
        check_value(self, put_in, {"lot": (9, (((0, 8), 1),)), "hour": 9}, (10, (((0, 8), 1),)))

    def test_put_in_at_no_place(self):
        for hour in (5, 6, -1, BIG, -BIG):
            check_error(self, put_in, {"lot": LOT, "hour": hour}, NoHour(hour))
        for hour in (-1, 2):
            check_error(self, put_in, {"lot": NONE, "hour": hour}, NoHour(hour))
        check_error(self, put_in, {"lot": FULL, "hour": 9}, NoHour(9))


class ByTheirHours(unittest.TestCase):
    """Each LOT once more, its windows taken as sets of hours."""

    def lots(self):
        yield from small_lots(1, 2)
        yield from small_lots(2, 2)
        yield from small_lots(3, 1)
        yield FULL
        yield LOT

    def test_behind(self):
        for lot in self.lots():
            hours = lot[0]
            pairs = [({hours - 1 - hour for hour in hours_in(window)}, work) for window, work in lot[1]]
            self.assertEqual(behind(lot), by_hours(hours, pairs))
            self.assertEqual(behind(behind(lot)), lot)

    def test_joined(self):
        for lot in self.lots():
            for hour in range(lot[0] - 1):
                now = [at - (at > hour) for at in range(lot[0])]
                pairs = [({now[at] for at in hours_in(window)}, work) for window, work in lot[1]]
                self.assertEqual(joined(lot, hour), by_hours(lot[0] - 1, pairs))

    def test_put_in(self):
        for lot in self.lots():
            for hour in range(lot[0] + 1):
                pairs = []
                for window, work in lot[1]:
                    own = hours_in(window)
                    further = {hour} if hour - 1 in own and hour in own else set()
                    pairs.append(({at + (at >= hour) for at in own} | further, work))
                longer = put_in(lot, hour)
                self.assertEqual(longer, by_hours(lot[0] + 1, pairs))
                if hour > 0:
                    self.assertEqual(joined(longer, hour - 1), lot)
                if hour < lot[0]:
                    self.assertEqual(joined(longer, hour), lot)

    def test_what_comes_is_a_lot(self):
        for lot in self.lots():
            for come in (behind(lot), put_in(lot, 0), times_over(lot, 3), times_over(lot, 0), added(lot, lot)):
                self.assertIs(is_lot(come), True)


class Sums(unittest.TestCase):

    def test_added(self):
        other = (4, (((0, 0), 5), ((1, 1), BIG), ((3, 3), 1)))
        expected = (4, (((0, 0), 5), ((0, 1), 3), ((1, 1), BIG + 1), ((1, 3), 2), ((3, 3), 1)))
        check_value(self, added, {"one": LOT, "other": other}, expected)
        check_value(self, added, {"one": other, "other": LOT}, expected)
        check_value(self, added, {"one": LOT, "other": (4, ())}, LOT)
        check_value(self, added, {"one": (4, ()), "other": LOT}, LOT)
        check_value(self, added, {"one": NONE, "other": NONE}, NONE)
        check_value(self, added, {"one": ONE, "other": ONE}, (1, (((0, 0), 2 * BIG),)))

    def test_added_of_other_hours(self):
        for one, other in ((LOT, NONE), (NONE, LOT), (LOT, (3, LOT[1][:2])), (FULL, (9, FULL[1]))):
            check_error(self, added, {"one": one, "other": other}, Unlike())

    def test_times_over(self):
        check_value(self, times_over, {"lot": LOT, "many": 0}, (4, ()))
        check_value(self, times_over, {"lot": LOT, "many": 1}, LOT)
        check_value(self, times_over, {"lot": LOT, "many": 7}, (4, (((0, 1), 21), ((1, 1), 7), ((1, 3), 14))))
        check_value(self, times_over, {"lot": NONE, "many": BIG}, NONE)
        check_value(self, times_over, {"lot": ONE, "many": BIG}, (1, (((0, 0), BIG * BIG),)))

    def test_returned_values_are_passed_in_again(self):
        great = times_over(times_over(FULL, BIG), BIG)
        self.assertEqual(all_work(great), all_work(FULL) * BIG * BIG)
        self.assertEqual(work_in(behind(great), 0, 0), work_in(FULL, 7, 7) * BIG * BIG)
        self.assertEqual(added(great, great), times_over(great, 2))
        self.assertEqual(joined(put_in(great, 8), 7), great)
        self.assertEqual(made_lot(*great), great)


if __name__ == "__main__":
    unittest.main()
