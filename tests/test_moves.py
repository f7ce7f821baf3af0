"""Promise [9]: MOVES, the PATHS that they make, and LOTs that are just lighter."""

import functools
import itertools
import random
import unittest

from anyhands import moves
from anyhands.errors import NoMove, Unlike
from anyhands.lots import added, all_work, is_lot, times_over
from anyhands.moves import (
    is_just_lighter, is_move, is_path, just_heavier, just_lighter, moved, one_move, open_moves, path_between,
)
from tests.support import (
    BIG, JUNK, check_error, check_new, check_same, check_thing, check_value, hours_in, lot_of_pieces, lots_of_work,
    nearly, nested, pieces_of, plain_never_more, plain_table, run_examples, some_lot, stretches, with_part,
    written_as,
)

EXAMPLES = """
    >>> lot, goal = (3, (((0, 2), 2), ((1, 1), 1))), (3, (((0, 1), 1), ((0, 2), 1), ((1, 2), 1)))
    >>> moved(lot, ("cross", (0, 2), (1, 1))) == goal, moved(lot, ("front", (1, 1))), moved(lot, ("out", (0, 2)), 2)
    (True, (3, (((0, 1), 1), ((0, 2), 2))), (3, (((1, 1), 1),)))
    >>> open_moves(lot), is_move(3, ("back", (0, 1))), is_move(3, ("front", (0, 1))), is_move(3, ("cross", (0, 2), (0, 1)))
    ([('back', (1, 1)), ('cross', (0, 2), (1, 1)), ('front', (1, 1)), ('out', (0, 2)), ('out', (1, 1))], True, False, False)
    >>> one_move(lot, goal), one_move(lot, (3, (((0, 2), 2),))), one_move(goal, lot), one_move(lot, (3, ()))
    ((('cross', (0, 2), (1, 1)), 1), (('out', (1, 1)), 1), None, None)
    >>> is_path(lot, (3, ()), ((("front", (1, 1)), 1), (("out", (0, 1)), 1), (("out", (0, 2)), 2))), is_path(lot, (3, ()), path_between(lot, (3, ()))), path_between(goal, lot), path_between(lot, lot), is_path(lot, goal, ())
    (True, True, None, (), False)
    >>> just_lighter(lot), just_heavier((2, (((0, 0), 1),))), is_just_lighter((3, (((0, 2), 2),)), lot)
    ([(3, (((0, 1), 1), ((0, 2), 1), ((1, 2), 1))), (3, (((0, 2), 1), ((1, 1), 1)))], [(2, (((0, 0), 1), ((0, 1), 1)))], False)
    >>> moved(lot, ("cross", (0, 2), (1, 1)), 2)
    raises NoMove(move=('cross', (0, 2), (1, 1)))
    >>> one_move(lot, (2, ()))
    raises Unlike()
"""

LOT, GOAL = (3, (((0, 2), 2), ((1, 1), 1))), (3, (((0, 1), 1), ((0, 2), 1), ((1, 2), 1)))
NONE = (3, ())
ONE = (1, (((0, 0), 3),))
FULL = (8, tuple(((first, last), BIG - 8 * first - last) for first in range(8) for last in range(first, 8)))
OTHER_HOURS = ((1, ()), (2, (((0, 1), 1),)), (4, LOT[1]), (8, ()))


@functools.cache
def plain_moves(hours):
    """Each MOVE of so many hours, with the windows that it takes and those that it gives."""
    found = {}
    for first, last in stretches(hours):
        found["out", (first, last)] = ()
        if (first - 1, last) in stretches(hours):
            found["front", (first, last)] = ((first - 1, last),)
        if (first, last + 1) in stretches(hours):
            found["back", (first, last)] = ((first, last + 1),)
        for begin, end in stretches(hours):
            if begin < first and last < end:
                found["cross", (begin, end), (first, last)] = ((begin, last), (first, end))
    return {move: (move[1:], found[move]) for move in sorted(found)}


def plain_moved(lot, move, many=1):
    """The LOT behind the MOVE, by its pieces; None if it has not so many."""
    before, after = plain_moves(lot[0])[move]
    works = dict(lot[1])
    for window in before:
        if works.get(window, 0) < many:
            return None
        works[window] -= many
    for window in after:
        works[window] = works.get(window, 0) + many
    return lot[0], tuple((window, work) for window, work in sorted(works.items()) if work)


def plain_open(lot):
    return [move for move in plain_moves(lot[0]) if plain_moved(lot, move)]


def plain_is_path(lot, goal, path):
    for move, many in path:
        lot = plain_moved(lot, move, many)
        if lot is None:
            return False
    return lot == goal


def plain_is_move(hours, thing):
    return repr(thing) in [repr(move) for move in plain_moves(hours)]


def fallen(hours, move):
    """By how much the numbers of the table fall together, as the document tells it."""
    first, last = move[-1]
    if move[0] == "cross":
        begin, end = move[1]
        return (first - begin) * (end - last)
    return {"out": (first + 1) * (hours - last), "front": hours - last, "back": first + 1}[move[0]]


def reached(lot):
    """All LOTs to which single MOVES lead, one behind another."""
    found, waiting = {lot}, [lot]
    while waiting:
        now = waiting.pop()
        for move in plain_open(now):
            further = plain_moved(now, move)
            if further not in found:
                found.add(further)
                waiting.append(further)
    return found


def orders(hours, most):
    """The LOTs of at most so much work; for each of them those that never ask more, and than which it does not."""
    lots = list(lots_of_work(hours, most))
    tables = {lot: plain_table(lot) for lot in lots}
    below = {lot: [] for lot in lots}
    above = {lot: [] for lot in lots}
    for one, other in itertools.permutations(lots, 2):
        if all(low <= high for low, high in zip(tables[one], tables[other])):
            below[other].append(one)
            above[one].append(other)
    return lots, below, above


def just_under(lot, below):
    """Of the LOTs below this one those without a third one between."""
    between = {further for one in below[lot] for further in below[one]}
    return sorted(set(below[lot]) - between)


class Examples(unittest.TestCase):

    def test_those_of_the_document(self):
        run_examples(self, EXAMPLES, vars(moves))


class IsMove(unittest.TestCase):

    def test_all_that_look_like_moves(self):
        numbers = range(-1, 5)
        windows = list(itertools.product(numbers, repeat=2))
        for hours in (1, 2, 3):
            known = plain_moves(hours)
            for kind in ("out", "front", "back", "cross", "", "Out", "in"):
                for window in windows:
                    self.assertIs(is_move(hours, (kind, window)), (kind, window) in known)
                    for other in windows:
                        thing = (kind, window, other)
                        self.assertIs(is_move(hours, thing), thing in known)

    def test_eight_hours(self):
        known = plain_moves(8)
        self.assertEqual(len(known), 36 + 28 + 28 + 126)
        for move in known:
            self.assertIs(is_move(8, move), True)
            self.assertIs(is_move(9, move), True)
            self.assertIs(is_move(2, move), move in plain_moves(2))

    def test_forms(self):
        for move in (("out", (0, 0)), ("front", (1, 1)), ("back", (0, 1)), ("cross", (0, 2), (1, 1))):
            check_thing(self, is_move, {"hours": 3}, move, True)
            check_thing(self, is_move, {"hours": 3}, list(move), False)
            check_thing(self, is_move, {"hours": 3}, move[:1] + tuple(list(window) for window in move[1:]), False)

    def test_nearly(self):
        for move in (("out", (0, 0)), ("out", (1, 2)), ("front", (1, 1)), ("back", (0, 1)), ("cross", (0, 2), (1, 1))):
            for thing in nearly(move):
                with self.subTest(thing=thing):
                    self.assertIs(is_move(3, thing), plain_is_move(3, thing))

    def test_others(self):
        for thing in (*JUNK, ("out",), ("out", 0, 1), ("out", (0,)), ("out", (0, 1, 2)), ("out", (0, 1), (0, 1)),
                      ("out", (0, True)), ("front", (True, 1)), ("front", (0, 1)), ("back", (0, 2)), ("back", (False, 1)),
                      ("cross", (0, 2)), ("cross", (1, 1), (0, 2)), ("cross", (0, 1), (1, 1)), ("cross", (0, 2), (0, 0)),
                      ("cross", (0, 2), (1, 2)), ("cross", (0, 2), (1, 1), (1, 1)), ("cross", ((0, 2), (1, 1))),
                      ("front", (1, BIG)), ("out", (-BIG, 0)), ("cross", (-BIG, BIG), (1, 1)), ("out", [0, 0]),
                      ["out", (0, 0)], "out", ("out", None), (None, (0, 0)), (0, (0, 0)), (("out",), (0, 0)), ("cross",)):
            check_thing(self, is_move, {"hours": 3}, thing, False)
        for depth in range(1, 11):
            self.assertIs(is_move(3, nested(("out", (0, 0)), depth)), False)

    def test_beyond_the_bounds(self):
        self.assertIs(is_move(BIG, ("cross", (0, BIG - 1), (1, BIG - 2))), True)
        self.assertIs(is_move(BIG, ("back", (0, BIG - 1))), False)
        self.assertIs(is_move(BIG, ("front", (BIG - 1, BIG - 1))), True)
        self.assertIs(is_move(BIG, ("out", (0, BIG))), False)


class Moved(unittest.TestCase):

    def test_all_small_ones(self):
        for hours, most in ((1, 3), (2, 4), (3, 3), (4, 2)):
            for lot in lots_of_work(hours, most):
                self.assertEqual(open_moves(lot), plain_open(lot))
                for move, many in itertools.product(plain_moves(hours), (1, 2, 3)):
                    after = plain_moved(lot, move, many)
                    if after is None:
                        with self.assertRaises(NoMove) as caught:
                            moved(lot, move, many)
                        self.assertEqual(repr(caught.exception.move), repr(move))
                    else:
                        self.assertEqual(moved(lot, move, many), after)
                        self.assertIs(is_lot(moved(lot, move, many)), True)

    def test_just_these_stretches_ask_less(self):
        for hours in (1, 2, 3, 4, 8):
            for move, (before, _) in plain_moves(hours).items():
                lot = lot_of_pieces(hours, before * 3)
                falls = []
                for stretch, more, less in zip(stretches(hours), plain_table(lot), plain_table(moved(lot, move, 2))):
                    self.assertIn(more - less, (0, 2))
                    falls += [stretch] if more > less else []
                first, last = move[-1]
                if move[0] == "cross":
                    begin, end = move[1]
                    told = [(x, y) for x, y in stretches(hours) if begin < x <= first and last <= y < end]
                else:
                    told = [own for own in stretches(hours) if hours_in((first, last)) <= hours_in(own)]
                    told = [(x, y) for x, y in told if x == first or move[0] != "front"]
                    told = [(x, y) for x, y in told if y == last or move[0] != "back"]
                self.assertEqual(falls, told)
                self.assertEqual(len(falls), fallen(hours, move))

    def test_many(self):
        lot = (3, (((0, 2), 5), ((1, 1), 4)))
        for move, many, after in ((("cross", (0, 2), (1, 1)), 4, (((0, 1), 4), ((0, 2), 1), ((1, 2), 4))),
                                  (("cross", (0, 2), (1, 1)), 3, (((0, 1), 3), ((0, 2), 2), ((1, 1), 1), ((1, 2), 3))),
                                  (("out", (0, 2)), 5, (((1, 1), 4),)), (("back", (1, 1)), 2,
                                  (((0, 2), 5), ((1, 1), 2), ((1, 2), 2))), (("front", (1, 1)), 4, (((0, 1), 4), ((0, 2), 5)))):
            check_value(self, moved, {"lot": lot, "move": move, "many": many}, (3, after))
            check_value(self, one_move, {"lot": lot, "goal": (3, after)}, (move, many))
        for move, many in ((("cross", (0, 2), (1, 1)), 5), (("out", (0, 2)), 6), (("front", (1, 1)), BIG),
                           (("back", (1, 1)), 5), (("out", (1, 1)), 5)):
            check_error(self, moved, {"lot": lot, "move": move, "many": many}, NoMove(move))
        check_value(self, moved, {"lot": lot, "move": ("out", (1, 1))}, (3, (((0, 2), 5), ((1, 1), 3))))

    def test_great_numbers(self):
        for move in plain_moves(8):
            many = min(dict(FULL[1])[window] for window in move[1:])
            after = moved(FULL, move, many)
            self.assertEqual(after, plain_moved(FULL, move, many))
            check_error(self, moved, {"lot": FULL, "move": move, "many": many + 1}, NoMove(move))
            self.assertEqual(one_move(FULL, after), (move, many))
        great = times_over(times_over(FULL, BIG), BIG)
        move = ("cross", (0, 7), (1, 6))
        self.assertEqual(moved(great, move, BIG ** 3 - 14 * BIG ** 2), plain_moved(great, move, BIG ** 3 - 14 * BIG ** 2))
        self.assertEqual(open_moves(great), list(plain_moves(8)))

    def test_no_move(self):
        for move in (("front", (0, 2)), ("front", (0, 1)), ("back", (0, 2)), ("back", (1, 2)), ("out", (0, 1)),
                     ("out", (0, 3)), ("out", (2, 1)), ("out", (-1, 0)), ("out", (0, BIG)), ("cross", (1, 1), (0, 2)),
                     ("cross", (0, 2), (0, 2)), ("cross", (0, 2), (1, 2)), ("cross", (0, 2), (0, 1)),
                     ("cross", (0, 2)), ("out", (0, 2), (1, 1)), ("front", (1, 1), (1, 1)), ("in", (1, 1)), ("", (1, 1)),
                     ("cross", (0, 2), (1, 1), (1, 1)), ("back", (3, 3)), ("cross", (0, 3), (1, 1)), ("out",), ()):
            for many in (1, 2):
                check_error(self, moved, {"lot": LOT, "move": move, "many": many}, NoMove(move))
            check_error(self, moved, {"lot": LOT, "move": move}, NoMove(move))
            check_error(self, moved, {"lot": NONE, "move": move}, NoMove(move))

    def test_one_hour(self):
        check_value(self, open_moves, {"lot": ONE}, [("out", (0, 0))])
        check_value(self, moved, {"lot": ONE, "move": ("out", (0, 0)), "many": 3}, (1, ()))
        check_error(self, moved, {"lot": ONE, "move": ("out", (0, 0)), "many": 4}, NoMove(("out", (0, 0))))
        check_error(self, moved, {"lot": ONE, "move": ("front", (0, 0))}, NoMove(("front", (0, 0))))
        check_error(self, moved, {"lot": ONE, "move": ("back", (0, 0))}, NoMove(("back", (0, 0))))
        check_value(self, open_moves, {"lot": (1, ())}, [])

    def test_forms(self):
        for lot in (LOT, GOAL, NONE, ONE, FULL):
            check_same(self, open_moves, {"lot": lot})
            check_new(self, open_moves, {"lot": lot})
        for move in open_moves(LOT):
            check_same(self, moved, {"lot": LOT, "move": move, "many": 1})


class OneMove(unittest.TestCase):

    def test_all_small_pairs(self):
        for hours, most in ((1, 4), (2, 3), (3, 2)):
            lots = list(lots_of_work(hours, most))
            for lot, goal in itertools.product(lots, repeat=2):
                ways = [(move, many) for move in plain_moves(hours) for many in range(1, most + 1)
                        if plain_moved(lot, move, many) == goal]
                self.assertLessEqual(len(ways), 1)
                self.assertEqual(one_move(lot, goal), ways[0] if ways else None)

    def test_edges(self):
        lot = (4, (((0, 3), 4), ((1, 1), 2), ((1, 2), 2), ((2, 2), 1)))
        for errands, told in ((lot[1], None), ((), None), (lot[1][1:], (("out", (0, 3)), 4)),
                              ((((0, 2), 2), ((0, 3), 2), ((1, 1), 2), ((1, 3), 2), ((2, 2), 1)),
                               (("cross", (0, 3), (1, 2)), 2)),
                              ((((0, 3), 6), ((1, 1), 2), ((2, 2), 1)), None),
                              ((((0, 3), 4), ((1, 2), 4), ((2, 2), 1)), (("back", (1, 1)), 2)),
                              ((((0, 3), 4), ((1, 2), 5), ((2, 2), 1)), None),
                              ((((0, 3), 4), ((1, 1), 2), ((1, 2), 3)), (("front", (2, 2)), 1)),
                              ((((0, 3), 4), ((1, 1), 2), ((1, 2), 2)), (("out", (2, 2)), 1)),
                              ((((0, 3), 3), ((1, 1), 1), ((1, 2), 2), ((2, 2), 1)), None)):
            check_value(self, one_move, {"lot": lot, "goal": (4, errands)}, told)
        check_value(self, one_move, {"lot": NONE, "goal": NONE}, None)
        check_value(self, one_move, {"lot": ONE, "goal": (1, (((0, 0), 1),))}, (("out", (0, 0)), 2))


class Paths(unittest.TestCase):

    def check(self, lot, goal):
        path = path_between(lot, goal)
        self.assertTrue(written_as([(0, 0)], tuple((0, many) for _, many in path)))
        self.assertGreaterEqual(min([many for _, many in path], default=1), 1)
        self.assertTrue(all(plain_is_move(lot[0], move) for move, _ in path))
        self.assertTrue(plain_is_path(lot, goal, path))
        self.assertIs(is_path(lot, goal, path), True)
        falls = sum(many * fallen(lot[0], move) for move, many in path)
        self.assertEqual(sum(plain_table(lot)) - sum(plain_table(goal)), falls)

    def test_some_path_exactly_if_never_more(self):
        for hours, most in ((1, 4), (2, 3), (3, 2), (3, 3), (4, 2)):
            lots = list(lots_of_work(hours, most))
            tables = {lot: plain_table(lot) for lot in lots}
            for lot in lots if most < 3 or hours < 3 else lots[::5]:
                found = reached(lot)
                for goal in lots:
                    lighter = all(low <= high for low, high in zip(tables[goal], tables[lot]))
                    self.assertEqual(goal in found, lighter)
                    if lighter:
                        self.check(lot, goal)
                    else:
                        self.assertIsNone(path_between(lot, goal))

    def test_three_hundred_pieces(self):
        chance = random.Random(300)
        for hours in (5, 8):
            lot = some_lot(chance, hours, 300)
            self.assertEqual(all_work(lot), 300)
            self.check(lot, (hours, ()))
            self.check(lot, lot)
            self.check((hours, (((hours // 2, hours // 2), 300),)), (hours, (((0, hours - 1), 300),)))
            self.check((hours, (((0, hours - 1), 150), ((2, 2), 150))), (hours, (((0, 2), 150), ((2, hours - 1), 150))))
            goal = lot
            for many in (200, 400):
                for _ in range(many):
                    goal = plain_moved(goal, chance.choice(plain_open(goal)))
                self.check(lot, goal)
                self.assertIsNone(path_between(goal, lot))
            self.assertIsNone(path_between(lot, some_lot(chance, hours, 299)))

    def test_by_chance(self):
        chance = random.Random(9)
        for _ in range(150):
            hours = chance.randint(4, 8)
            goal = some_lot(chance, hours, chance.randint(1, 9), 4)
            lot = added(goal, some_lot(chance, hours, chance.randint(0, 2)))
            for _ in range(chance.randint(0, 20)):
                ways = [(move, after) for move, (_, after) in plain_moves(hours).items()
                        if after and all(window in dict(lot[1]) for window in after)]
                if ways:
                    move, after = chance.choice(ways)
                    pieces = list(pieces_of(lot))
                    for window in after:
                        pieces.remove(window)
                    lot = lot_of_pieces(hours, pieces + list(move[1:]))
            self.check(lot, goal)
            self.assertEqual(path_between(goal, lot), () if lot == goal else None)

    def test_is_path(self):
        lot = (3, (((0, 2), 1), ((1, 1), 2)))
        steps = [(move, many) for move in plain_moves(3) for many in (1, 2)]
        goals = list(lots_of_work(3, 3))
        for path in [(), *((one,) for one in steps), *itertools.product(steps, repeat=2)]:
            end = lot
            for move, many in path:
                end = end and plain_moved(end, move, many)
            for goal in {end, NONE, lot, goals[len(path) * 7]} - {None}:
                self.assertIs(is_path(lot, goal, path), goal == end)

    def test_order_of_a_path(self):
        path = ((("front", (1, 1)), 1), (("out", (0, 1)), 1), (("out", (0, 2)), 2))
        for some in itertools.permutations(path):
            before = [move[0] + str(move[1][1]) for move, _ in some]
            check_thing(self, is_path, {"lot": LOT, "goal": NONE}, some, before.index("front1") < before.index("out1"))
        for some in (path[:2], path[1:], path + path[:1], path + path, (*path, (("out", (0, 2)), 1))):
            check_thing(self, is_path, {"lot": LOT, "goal": NONE}, some, False)

    def test_steps_of_no_pieces_are_none(self):
        step, other = ("out", (1, 1)), ("front", (1, 1))
        for many in (0, -1, -BIG):
            for path in (((step, 1), (step, many)), ((step, many), (step, 1)), ((step, 1 - many), (step, many)),
                         ((other, many), (step, 1)), ((step, 1), (other, many))):
                check_thing(self, is_path, {"lot": LOT, "goal": (3, (((0, 2), 2),))}, path, False)
            check_thing(self, is_path, {"lot": LOT, "goal": LOT}, ((step, many),), False)
        check_thing(self, is_path, {"lot": (3, (((0, 2), 2),)), "goal": LOT}, ((step, -1),), False)

    def test_a_path_of_nothing(self):
        for lot in (LOT, GOAL, NONE, ONE, FULL):
            check_value(self, path_between, {"lot": lot, "goal": lot}, ())
            check_thing(self, is_path, {"lot": lot, "goal": lot}, (), True)
        check_thing(self, is_path, {"lot": LOT, "goal": NONE}, (), False)
        check_thing(self, is_path, {"lot": LOT, "goal": LOT}, [], False)

    def test_great_numbers(self):
        path = tuple((("out", window), work) for window, work in FULL[1])
        check_thing(self, is_path, {"lot": FULL, "goal": (8, ())}, path, True)
        for place in ((0, 1), (17, 1), (35, 1)):
            for number in (1, BIG, BIG ** 3, 0, -1, -BIG):
                thing = with_part(path, place, number)
                self.assertIs(is_path(FULL, (8, ()), thing), thing == path)
        great = times_over(times_over(FULL, BIG), BIG)
        self.assertIs(is_path(great, (8, ()), path), False)
        self.assertIs(is_path(great, (8, ()), tuple((move, many * BIG * BIG) for move, many in path)), True)

    def test_forms(self):
        for lot, goal in itertools.product((LOT, GOAL, NONE), repeat=2):
            check_same(self, path_between, {"lot": lot, "goal": goal})
            check_same(self, one_move, {"lot": lot, "goal": goal})
            if path_between(lot, goal) is not None:
                check_thing(self, is_path, {"lot": lot, "goal": goal}, path_between(lot, goal), True)

    def test_nearly(self):
        path = ((("front", (1, 1)), 1), (("out", (0, 1)), 1), (("cross", (0, 2), (1, 1)), 1), (("out", (0, 2)), 2))
        lot, goal = (3, (((0, 2), 3), ((1, 1), 2))), (3, (((0, 1), 1), ((1, 2), 1)))
        self.assertIs(is_path(lot, goal, path), True)
        for thing in nearly(path):
            with self.subTest(thing=thing):
                fits = isinstance(thing, tuple) and all(isinstance(step, tuple) and len(step) == 2 for step in thing)
                fits = fits and all(plain_is_move(3, move) and written_as(0, many) and many > 0 for move, many in thing)
                self.assertIs(is_path(lot, goal, thing), fits and plain_is_path(lot, goal, thing))

    def test_others(self):
        values = {"lot": LOT, "goal": (3, (((0, 2), 2),))}
        check_thing(self, is_path, values, ((("out", (1, 1)), 1),), True)
        for thing in (*JUNK, (("out", (1, 1)), 1), [(("out", (1, 1)), 1)], ([("out", (1, 1)), 1],), ((["out", (1, 1)], 1),),
                      ((("out", [1, 1]), 1),), ((("out", (1, 1)), True),), ((("out", (True, 1)), 1),),
                      ((("out", (1, 1)), "1"),), ((("out", (1, 1)), None),), ((("out", (1, 1)), 0),), ((("out", (1, 1)),),),
                      ((("out", (1, 1)), 1, 1),), ((("out", (1, 1)), 2),), ((("out", (1, 1)), BIG ** 3),),
                      ((("out", (1, 1)), 1), None), ((("out", (1, 1)), 1), ()), ((("OUT", (1, 1)), 1),), (1,), ((),)):
            check_thing(self, is_path, values, thing, False)
        for depth in range(1, 9):
            self.assertIs(is_path(*values.values(), nested(((("out", (1, 1)), 1),), depth)), False)


class JustLighter(unittest.TestCase):

    def check_all(self, hours, most, step=1):
        """The LOTs of this much work: what is just lighter among all, and, of less work, what is just heavier."""
        lots, below, above = orders(hours, most)
        lighter = {lot: just_under(lot, below) for lot in lots}
        for lot in lots[::step]:
            self.assertEqual(just_lighter(lot), lighter[lot])
            for one in lighter[lot]:
                self.assertEqual(one_move(lot, one)[1], 1)
            if all_work(lot) < most:
                self.assertEqual(just_heavier(lot), [own for own in sorted(above[lot]) if lot in lighter[own]])
        for one, other in itertools.product(lots[::step * 7], lots[::step]):
            self.assertIs(is_just_lighter(one, other), one in lighter[other])

    def test_among_all_small_lots(self):
        for hours, most in ((1, 6), (2, 5), (3, 4), (4, 3)):
            self.check_all(hours, most, 1 if hours < 4 else 3)

    def test_five_hours(self):
        self.check_all(5, 2)

    def test_five_hours_by_chance(self):
        chance = random.Random(55)
        for _ in range(25):
            lot = some_lot(chance, 5, chance.randint(4, 9), 3)
            under = just_lighter(lot)
            self.assertEqual(under, sorted(set(under)))
            for one in under:
                self.assertTrue(plain_never_more(one, lot) and one != lot and is_lot(one))
                self.assertIn(lot, just_heavier(one))
                self.assertIs(is_just_lighter(one, lot), True)
                self.assertIs(is_just_lighter(lot, one), False)
                self.assertFalse(any(own != one and plain_never_more(one, own) for own in under))
            for move in plain_open(lot):
                after = plain_moved(lot, move)
                self.assertTrue(any(plain_never_more(after, one) for one in under))
                self.assertIs(is_just_lighter(after, lot), after in under)
            for other in just_heavier(lot):
                self.assertIn(lot, just_lighter(other))

    def test_edges(self):
        check_value(self, just_lighter, {"lot": (1, ())}, [])
        check_value(self, just_lighter, {"lot": (5, ())}, [])
        check_value(self, just_heavier, {"lot": (1, ())}, [(1, (((0, 0), 1),))])
        check_value(self, just_heavier, {"lot": (5, ())}, [(5, (((0, 4), 1),))])
        check_value(self, just_lighter, {"lot": ONE}, [(1, (((0, 0), 2),))])
        check_value(self, just_heavier, {"lot": ONE}, [(1, (((0, 0), 4),))])
        check_value(self, just_lighter, {"lot": (5, (((0, 4), BIG),))}, [(5, (((0, 4), BIG - 1),))])
        check_value(self, just_lighter, {"lot": (5, (((2, 2), 1),))}, [(5, (((1, 2), 1),)), (5, (((2, 3), 1),))])
        for one, other, told in ((NONE, NONE, False), (LOT, LOT, False), (NONE, (3, (((0, 2), 1),)), True),
                                 (NONE, (3, (((0, 1), 1),)), False), ((3, (((0, 2), 1),)), NONE, False),
                                 (GOAL, LOT, True), (LOT, GOAL, False)):
            check_value(self, is_just_lighter, {"one": one, "other": other}, told)

    def test_great_numbers(self):
        great = times_over((5, (((0, 4), 1), ((1, 1), 2), ((1, 3), 1), ((2, 2), 3))), BIG ** 3)
        for one in just_lighter(great):
            self.assertIs(is_lot(one), True)
            self.assertIn(great, just_heavier(one))
        moves_back = {one_move(great, one)[0] for one in just_lighter(great)}
        small = times_over((5, (((0, 4), 1), ((1, 1), 2), ((1, 3), 1), ((2, 2), 3))), 1)
        self.assertEqual(moves_back, {one_move(small, one)[0] for one in just_lighter(small)})

    def test_forms(self):
        five = (5, (((0, 4), 2), ((1, 1), 1), ((2, 3), 1)))
        for lot in (LOT, GOAL, NONE, ONE, five):
            for function in (just_lighter, just_heavier):
                check_same(self, function, {"lot": lot})
                check_new(self, function, {"lot": lot})
        for one in just_lighter(five):
            check_value(self, is_just_lighter, {"one": one, "other": five}, True)


class Errors(unittest.TestCase):

    def test_unlike(self):
        for other in OTHER_HOURS:
            for one, its in ((LOT, other), (other, LOT), (NONE, other), (other, NONE)):
                for function in (one_move, path_between):
                    check_error(self, function, {"lot": one, "goal": its}, Unlike())
                check_error(self, is_just_lighter, {"one": one, "other": its}, Unlike())
                for thing in (*JUNK, ((("out", (0, 0)), 1),), ((("front", (0, 0)), 1),), ((("out", (9, 9)), 0),)):
                    check_error(self, is_path, {"lot": one, "goal": its, "thing": thing}, Unlike())


if __name__ == "__main__":
    unittest.main()
