"""Promises [1] and [2] over the whole package: what speaks of several points at once, and things of all kinds."""

import ast
import copy
import functools
import importlib
import inspect
import itertools
import pathlib
import unittest

from anyhands import errors
from anyhands.calendars import doing, is_calendar, is_done, is_doing, is_lacking, lacking, undone
from anyhands.errors import NoHour, NoStretch, Unlike
from anyhands.hands import (
    all_least, is_undone_calendar, least_by, most_undone, thinned, undone_calendar,
)
from anyhands.late import is_later_calendar, later_calendar, lateness, never_later
from anyhands.lots import added, all_work, behind, is_lot, joined, put_in, times_over
from anyhands.moves import (
    is_move, is_path, just_heavier, just_lighter, moved, open_moves, path_between,
)
from anyhands.order import heavy_calendar, heavy_prices, is_heavy_calendar, is_heavy_prices, never_more
from anyhands.prices import cheapest, cheapest_hands, excess, is_cheapest, is_prices
from anyhands.ranges import (
    against_within, calendar_within, is_against_within, is_ranges, is_within, never_more_within,
)
from anyhands.roster import Roster
from anyhands.tables import is_stretch, is_table, lot_of, table_of
from anyhands.telling import bills_of, blind_pair, is_blind_pair, lot_by_bills, telling_rows, weights_of
from anyhands.texts import lot_text, numbers_text, ranges_text, read_lot, read_numbers, read_ranges
from tests.support import (
    BIG, JUNK, all_fit, grid, lots_of_work, nested, part_at, pieces_of, places, small_lots, stretches, with_part,
)

PACKAGE = pathlib.Path(__file__).resolve().parent.parent / "anyhands"
NEAR, NEST, WIDE = (3, (((0, 1), 1), ((1, 2), 1))), (3, (((0, 2), 1), ((1, 1), 1))), (3, (((0, 2), 2),))
EARLY, NONE = (3, (((0, 0), 1),)), (3, ())


def some_book():
    book = Roster(3)
    book.add(0, 2, 2)
    book.hire(1, 1)
    return book


OBJECTS = (Roster(1), Roster(3), some_book(), errors.Unlike(), errors.NoMove(("out", (0, 1))), errors.TooFew(0, 1),
           errors.BadLine(0), errors.NothingDone(), NoStretch(0, 1), NoHour(0))

# Each function with a parameter called thing: its other arguments, and a thing of which it tells True.
THINGS = (
    (is_lot, (), NEAR), (is_lot, (), NONE), (is_stretch, (3,), (0, 2)), (is_table, (2,), (1, 3, 1)),
    (is_calendar, (2,), (0, 5)), (is_lacking, (NEAR, (0, 1, 0)), lacking(NEAR, (0, 1, 0))),
    (is_lacking, (NEAR, (1, 1, 1)), ()), (is_doing, (NEAR, (1, 1, 1)), doing(NEAR, (1, 1, 1))),
    (is_doing, (NEAR, (1, 1, 1)), ((), (), ())), (is_heavy_calendar, (NEST, NEAR), (1, 0, 1)),
    (is_heavy_prices, (NEST, NEAR), (0, 1, 0)), (is_prices, (3,), (2, 5, 1)),
    (is_cheapest, (NEAR, (2, 5, 1)), (1, 0, 1)), (is_move, (3,), ("cross", (0, 2), (1, 1))),
    (is_move, (3,), ("out", (0, 2))), (is_path, (NEST, NONE), path_between(NEST, NONE)), (is_path, (NEST, NEST), ()),
    (is_later_calendar, (NEST, NEAR), later_calendar(NEST, NEAR)),
    (is_undone_calendar, (NEST, NEAR), undone_calendar(NEST, NEAR)), (is_ranges, (2,), ((0, 2), (5, 5))),
    (is_within, (((0, 2), (5, 5)),), (1, 5)), (is_against_within, (NEST, NEAR, ((0, 1),) * 3), (1, 0, 1)),
    (is_blind_pair, (3, ((1, 1, 1),)), (NEAR, NEST)),
)


def functions_with_thing():
    """The functions of the package that have a parameter called thing."""
    for path in PACKAGE.glob("*.py"):
        module = importlib.import_module(f"anyhands.{path.stem}")
        for row in ast.parse(path.read_text()).body:
            if isinstance(row, ast.FunctionDef) and row.name.startswith("is_"):
                function = getattr(module, row.name)
                if "thing" in inspect.signature(function).parameters:
                    yield function


class Things(unittest.TestCase):

    def tells(self, function, given, thing):
        """What the function tells of the thing, by position and by name."""
        told = function(*given, thing)
        self.assertIs(function(*given, thing=thing), told)
        self.assertIsInstance(told, bool)
        return told

    def test_each_such_function_is_here(self):
        helpers = {"is_number", "is_number_pair", "is_number_row"}
        told = {function.__name__ for function in functions_with_thing()}
        self.assertEqual(told - helpers, {function.__name__ for function, _, _ in THINGS})

    def test_the_things_themselves(self):
        for function, given, thing in THINGS:
            with self.subTest(function=function.__name__, thing=thing):
                self.assertIs(self.tells(function, given, thing), True)

    def test_objects_of_the_package(self):
        for function, given, thing in THINGS:
            for own in OBJECTS:
                for other in (own, [own], (own,), (own, own), (own, own, own), (1, own), (own, 1), ((own, 1),),
                              nested(own, 12)):
                    with self.subTest(function=function.__name__, other=other):
                        self.assertIs(self.tells(function, given, other), False)

    def test_objects_in_things(self):
        for function, given, thing in THINGS:
            for place in places(thing):
                part = part_at(thing, place)
                for own in OBJECTS:
                    others = [own, [own], (own,)]
                    if isinstance(part, tuple):
                        others += [part + (own,), (own,) + part]
                    for other in others:
                        changed = with_part(thing, place, other)
                        with self.subTest(function=function.__name__, thing=changed):
                            self.assertIs(self.tells(function, given, changed), False)

    def test_other_kinds(self):
        for function, given, thing in THINGS:
            kept = [own for own in JUNK if own != ()]
            for other in (*kept, list(thing), str(thing), [thing], thing + (None,), (None,) + thing):
                with self.subTest(function=function.__name__, other=other):
                    if isinstance(other, tuple) and all(type(part) is int for part in other):
                        self.tells(function, given, other)
                    else:
                        self.assertIs(self.tells(function, given, other), False)

    def test_lists_in_things(self):
        for function, given, thing in THINGS:
            for place in places(thing):
                part = part_at(thing, place)
                other = list(part) if isinstance(part, tuple) else (bool(part) if isinstance(part, int) else [part])
                with self.subTest(function=function.__name__, place=place):
                    self.assertIs(self.tells(function, given, with_part(thing, place, other)), False)

    def test_nested(self):
        for function, given, thing in THINGS:
            for depth in range(1, 8):
                with self.subTest(function=function.__name__, depth=depth):
                    self.assertIs(self.tells(function, given, nested(thing, depth)), False)
            for value in (1, None, True, "0", [], Roster(2)):
                self.assertIs(self.tells(function, given, nested(value, 12)), False)

    def test_objects_are_left_as_they_are(self):
        book = some_book()
        twin = book.twin()
        for function, given, thing in THINGS:
            function(*given, book)
            function(*given, (book, thing))
            self.assertTrue(book == twin and len(book) == len(twin))

    def test_errors_raised_whatever_thing_is(self):
        for function, given in ((is_heavy_calendar, (NEAR, (2, ()))), (is_heavy_prices, (NEAR, (2, ()))),
                                (is_path, (NEAR, (2, ()))), (is_later_calendar, (NEAR, (2, ()))),
                                (is_undone_calendar, (NEAR, (2, ()))),
                                (is_against_within, (NEAR, (2, ()), ((0, 1),) * 3))):
            for thing in (*OBJECTS, (OBJECTS[0],), None):
                with self.assertRaises(Unlike):
                    function(*given, thing)
        for function, given in ((is_lacking, (NEAR, (1,))), (is_doing, (NEAR, ())), (is_cheapest, (NEAR, (1,))),
                                (is_against_within, (NEAR, NEST, ())), (is_blind_pair, (3, ((1,),)))):
            for thing in (*OBJECTS, (OBJECTS[0],), None):
                with self.assertRaises(errors.Unfit):
                    function(*given, thing)


def does(lot, calendar):
    return all_fit(pieces_of(lot), calendar)


@functools.cache
def latenesses(lot, most):
    told = [lateness(lot, calendar, after) for calendar in grid(lot[0], most) for after in (0, 1, 2)]
    return [BIG if number is None else number for number in told]


@functools.cache
def lefts(lot, most):
    return [undone(lot, calendar) for calendar in grid(lot[0], most)]


@functools.cache
def dones(lot, most):
    return [does(lot, calendar) for calendar in grid(lot[0], most)]


@functools.cache
def costs(lot):
    return [cheapest(lot, prices) for prices in grid(lot[0], 2)]


@functools.cache
def lightest_first(lots):
    """For each of the LOTs those that come of it by MOVES, itself too."""
    reached = {}
    for lot in sorted(lots, key=lambda own: sum(table_of(own))):
        reached[lot] = {lot}
        for move in open_moves(lot):
            reached[lot] |= reached[moved(lot, move)]
    return reached


def pairs():
    """Pairs of small LOTs, with the most hands that tell one from the other."""
    for lots, most in ((small_lots(1, 3), 3), (lots_of_work(2, 3), 3), (lots_of_work(3, 2), 2)):
        kept = list(lots)
        for one, other in itertools.product(kept, repeat=2):
            yield one, other, most


def at_most(one, other):
    return all(low <= high for low, high in zip(one, other))


class Overview(unittest.TestCase):

    def test_four_questions_with_one_answer(self):
        for one, other, most in pairs():
            told = at_most(table_of(one), table_of(other))
            self.assertIs(never_more(one, other), told)
            self.assertIs(at_most(dones(other, most), dones(one, most)), told)
            self.assertIs(at_most(lefts(one, most), lefts(other, most)), told)
            self.assertIs(at_most(latenesses(one, most), latenesses(other, most)), told)
            self.assertIs(at_most(costs(one), costs(other)), told)
            self.assertIs(never_later(one, other), told)

    def test_if_it_is_not_so_it_is_shown(self):
        for one, other, _ in pairs():
            calendar, prices, pair = heavy_calendar(one, other), heavy_prices(one, other), later_calendar(one, other)
            if never_more(one, other):
                self.assertEqual((calendar, prices, pair, most_undone(one, other)), (None, None, None, 0))
            else:
                self.assertTrue(is_heavy_calendar(one, other, calendar) and is_heavy_prices(one, other, prices))
                self.assertTrue(is_later_calendar(one, other, pair) and most_undone(one, other) > 0)

    def test_what_is_asked_tells_the_lot(self):
        for hours, lots in ((1, small_lots(1, 4)), (2, small_lots(2, 2)), (3, small_lots(3, 1)),
                            (4, lots_of_work(4, 2))):
            kept = list(lots)
            self.assertEqual(len({table_of(lot) for lot in kept}), len(kept))
            for lot in kept:
                self.assertEqual(lot_of(hours, table_of(lot)), lot)

    def test_never_more_exactly_by_moves(self):
        for hours, work in ((1, 4), (2, 4), (3, 3)):
            lots = tuple(lots_of_work(hours, work))
            reached = lightest_first(lots)
            for lot, goal in itertools.product(lots, repeat=2):
                self.assertIs(goal in reached[lot], never_more(goal, lot))
                self.assertIs(path_between(lot, goal) is not None, never_more(goal, lot))

    def test_one_greatest_difference(self):
        for one, other, most in pairs():
            differences = [more - less for more, less in zip(lefts(one, 2 * most), lefts(other, 2 * most))]
            dearer = [more - less for more, less in zip(costs(one), costs(other))]
            self.assertEqual(max(differences), most_undone(one, other))
            self.assertEqual(max(dearer), excess(one, other, 2))
            self.assertEqual(excess(one, other), most_undone(one, other))

    def test_within_ranges_and_behind_the_last_hour(self):
        for one, other, most in pairs():
            if one[0] > 2:
                continue
            every = ((0, 2 * most),) * one[0]
            self.assertIs(never_more_within(one, other, every), never_more(one, other))
            for pair in itertools.product(((0, 1), (1, 2), (2, 2)), repeat=one[0]):
                calendars = itertools.product(*(range(low, high + 1) for low, high in pair))
                told = all(does(one, calendar) for calendar in calendars if does(other, calendar))
                self.assertIs(never_more_within(one, other, pair), told)

    def test_lots_told_back_by_the_fewest_rows(self):
        for hours, most in ((1, 4), (2, 3), (3, 2), (4, 2)):
            rows = telling_rows(hours, most)
            for lot in lots_of_work(hours, most):
                self.assertEqual(lot_by_bills(hours, most, bills_of(lot, rows)), lot)
            for left_out in range(len(rows)):
                fewer = rows[:left_out] + rows[left_out + 1:]
                one, other = blind_pair(hours, fewer)
                self.assertEqual(bills_of(one, fewer), bills_of(other, fewer))
                self.assertTrue(one != other and max(all_work(one), all_work(other)) <= most)

    def test_the_answer_stays_the_same(self):
        further = {2: (2, (((0, 1), 2), ((1, 1), 1))), 3: (3, (((0, 1), 1), ((2, 2), 2)))}
        for one, other, _ in pairs():
            hours = one[0]
            if hours not in further:
                continue
            told = never_later(one, other)
            self.assertIs(never_later(behind(one), behind(other)), told)
            self.assertIs(never_later(added(one, further[hours]), added(other, further[hours])), told)
            self.assertIs(never_later(times_over(one, 5), times_over(other, 5)), told)
            self.assertEqual(most_undone(times_over(one, 5), times_over(other, 5)), 5 * most_undone(one, other))
            if told:
                for hour in range(hours - 1):
                    self.assertTrue(never_later(joined(one, hour), joined(other, hour)))
                for hour in range(hours + 1):
                    self.assertTrue(never_later(put_in(one, hour), put_in(other, hour)))


class Together(unittest.TestCase):

    def test_least_calendars_do_the_lot_and_cost_the_least(self):
        for lot in (*lots_of_work(3, 3), *small_lots(2, 2)):
            least = all_least(lot)
            for order in itertools.permutations(range(lot[0])):
                self.assertIn(least_by(lot, order), least)
            for prices in grid(lot[0], 2):
                spent = [sum(own * price for own, price in zip(calendar, prices)) for calendar in least]
                self.assertEqual(min(spent), cheapest(lot, prices))
                self.assertIs(is_done(lot, cheapest_hands(lot, prices)), True)

    def test_just_lighter_ones_are_never_later(self):
        for lot in lots_of_work(3, 2):
            for lighter in just_lighter(lot):
                self.assertTrue(never_later(lighter, lot) and not never_later(lot, lighter))
                self.assertGreaterEqual(most_undone(lot, lighter), 1)
            for heavier in just_heavier(lot):
                self.assertTrue(never_later(lot, heavier) and not never_later(heavier, lot))

    def test_a_roster_misses_what_is_left_undone(self):
        for lot in lots_of_work(3, 3):
            for calendar in grid(3, 1):
                book = Roster(3)
                for (first, last), work in lot[1]:
                    book.add(first, last, work)
                for hour, many in enumerate(calendar):
                    if many:
                        book.hire(hour, many)
                self.assertEqual(book.will_miss(), undone(lot, calendar))
                self.assertIs(book.is_safe(), is_done(lot, calendar))
                self.assertEqual(book.lot(), lot)
                self.assertEqual([book.spare(hour) for hour in range(3)].count(None),
                                 0 if is_done(lot, calendar) else 3)
                for _ in range(3):
                    book.pass_hour()
                self.assertEqual(all_work(book.missed()), undone(lot, calendar))
                done = {}
                for row in doing(lot, calendar):
                    for window, many in row:
                        done[window] = done.get(window, 0) + many
                self.assertEqual(dict(book.finished()[1]), done)

    def test_what_a_roster_hands_out_may_be_handed_in(self):
        book = some_book()
        book.pass_hour()
        twin = book.twin()
        for lot in (book.lot(), book.ahead(), book.finished(), book.missed()):
            self.assertTrue(is_lot(lot) and read_lot(lot_text(lot)) == lot)
            undone(lot, book.calendar())
            thinned(lot, book.calendar())
            moved(added(lot, (3, (((0, 1), 1),))), ("out", (0, 1)))
        self.assertTrue(book == twin)

    def test_returned_values_are_handed_in_again(self):
        great = (8, tuple((stretch, BIG) for stretch in stretches(8)))
        for lot in (great, times_over(great, BIG), added(times_over(great, BIG ** 2), great)):
            work = all_work(lot)
            calendar = thinned(lot, (work,) * 8)
            self.assertEqual(calendar_within(lot, tuple((0, own) for own in calendar), 0, 7), calendar)
            self.assertEqual(undone(lot, cheapest_hands(lot, calendar)), 0)
            self.assertEqual(read_numbers(numbers_text(calendar)), calendar)
            ranges = tuple((own, work) for own in calendar)
            self.assertEqual(read_ranges(ranges_text(ranges)), ranges)
            self.assertEqual(read_lot(lot_text(lot)), lot)
            self.assertIsNone(against_within(lot, lot, ranges))
            rows = telling_rows(8, work)
            self.assertEqual(lot_by_bills(8, work, bills_of(lot, rows)), lot)
            self.assertEqual(read_numbers(numbers_text(bills_of(lot, rows))), bills_of(lot, rows))
            self.assertEqual(sum(weight * cheapest(lot, [int(first <= hour <= last) for hour in range(8)])
                                 for (first, last), weight in weights_of(rows[0])), bills_of(lot, rows)[0])
            self.assertEqual(lateness(lot, (0,) * 8, lateness(lot, (0,) * 8, 1)), 8)

    def test_arguments_stay_as_they_are(self):
        lot = [3, [[[0, 1], 1], [[1, 2], 1]]]
        rows, ranges = [[1, 1, 1], [2, 5, 1]], [[0, 1], [0, 2], [1, 1]]
        before = copy.deepcopy((lot, rows, ranges))
        bills_of(lot, rows)
        lot_text(lot)
        ranges_text(ranges)
        calendar_within(lot, ranges, 0, 2)
        blind_pair(3, rows)
        thinned(lot, [1, 1, 1])
        self.assertEqual((lot, rows, ranges), before)


if __name__ == "__main__":
    unittest.main()
