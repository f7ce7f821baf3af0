"""What several test files need: examples of the document, calls in all forms, things nearly right."""

import copy
import functools
import itertools
import re

from anyhands import errors

ERRORS = {name: value for name, value in vars(errors).items() if isinstance(value, type)}
BIG = 10 ** 40


def kept_by(error):
    """What an error keeps, by the names of its attributes."""
    return dict(vars(error))


def run_examples(case, text, names):
    """Run the rows that begin with >>>; the row below tells the value, or the error with what it keeps."""
    scope = {**ERRORS, **names}
    rows = [row.strip() for row in text.strip().splitlines()]
    for at, row in enumerate(rows):
        if not row.startswith(">>> "):
            continue
        below = rows[at + 1] if at + 1 < len(rows) else ">>> "
        with case.subTest(row):
            run_example(case, row[4:], None if below.startswith(">>> ") else below, scope)


def run_example(case, source, told, scope):
    if told is None:
        exec(source, scope)
    elif told.startswith("raises "):
        expected = eval(told[len("raises "):], scope)
        with case.assertRaises(type(expected)) as caught:
            eval(source, scope)
        case.assertIs(type(caught.exception), type(expected))
        case.assertEqual(repr(kept_by(caught.exception)), repr(kept_by(expected)))
    else:
        case.assertEqual(repr(eval(source, scope)), told)


def rewritten(value, kinds, depth=0):
    """The value with its lists and tuples of the given kinds, by depth in turn."""
    if not isinstance(value, (list, tuple)):
        return value
    parts = [rewritten(part, kinds, depth + 1) for part in value]
    return kinds[depth % len(kinds)](parts)


def in_all_forms(values):
    """The values with tuples, with lists, and with both in turn."""
    for kinds in ((tuple,), (list,), (list, tuple), (tuple, list), (tuple, tuple, list)):
        yield {name: rewritten(value, kinds) for name, value in values.items()}


def each_call(function, values):
    """Calls of the function with these values, by position and by name, with tuples and with lists."""
    for given in in_all_forms(values):
        yield given, lambda given=given: function(*given.values())
        yield given, lambda given=given: function(**given)


def check_value(case, function, values, expected):
    """Each form of the call returns just this value, twice, and leaves its arguments as they are."""
    for given, call in each_call(function, values):
        with case.subTest(function=function.__name__, given=given):
            before = copy.deepcopy(given)
            case.assertEqual(repr(call()), repr(expected))
            case.assertEqual(repr(call()), repr(expected))
            case.assertEqual(repr(given), repr(before))


def check_error(case, function, values, expected):
    """Each form of the call raises just this error, and leaves its arguments as they are."""
    for given, call in each_call(function, values):
        with case.subTest(function=function.__name__, given=given):
            before = copy.deepcopy(given)
            with case.assertRaises(type(expected)) as caught:
                call()
            case.assertIs(type(caught.exception), type(expected))
            case.assertEqual(repr(kept_by(caught.exception)), repr(kept_by(expected)))
            case.assertEqual(repr(given), repr(before))


def nested(value, depth):
    for _ in range(depth):
        value = (value,)
    return value


WRONG_HOURS = (-1, -2, BIG, -BIG)

JUNK = (None, True, False, "", "0", "lot", [], (), [0, 1], (0,), (0, 1, 2), (0, None), ("0", "1"), (True, True),
        [1, ()], ((0, 1), 1), nested(1, 12), nested([], 11), errors.Unlike(), errors.NoStretch(0, 1),
        (errors.NoHour(0), 1))


def with_part(value, place, part):
    """The tuple with another part at this place, a path of indexes."""
    if not place:
        return part
    at = place[0]
    return value[:at] + (with_part(value[at], place[1:], part),) + value[at + 1:]


def places(value):
    """The paths to the value itself and to all its parts, at any depth."""
    yield ()
    if isinstance(value, tuple):
        for at, part in enumerate(value):
            for place in places(part):
                yield (at, *place)


def part_at(value, place):
    for at in place:
        value = value[at]
    return value


def nearly(value):
    """Things that differ from the value in one part: in its kind, or in how many values it has."""
    for place in places(value):
        part = part_at(value, place)
        others = list(JUNK)
        if isinstance(part, tuple):
            others += [list(part), part + (None,), (None,) + part, part + ([],), (part,), str(part)]
        else:
            others += [bool(part), str(part), (part,), [part]]
        for other in others:
            yield with_part(value, place, other)


def small_lots(hours, most):
    """All LOTs of so many hours with at most so much work in each window."""
    windows = [(first, last) for first in range(hours) for last in range(first, hours)]
    for works in itertools.product(range(most + 1), repeat=len(windows)):
        yield (hours, tuple((window, work) for window, work in zip(windows, works) if work))


def check_thing(case, function, values, thing, expected):
    """Each form of the other arguments gives this answer, True or False itself, about the thing."""
    for given in in_all_forms(values):
        with case.subTest(function=function.__name__, given=given, thing=thing):
            before = copy.deepcopy(given)
            case.assertIs(function(*given.values(), thing), expected)
            case.assertIs(function(**given, thing=thing), expected)
            case.assertEqual(repr(given), repr(before))


def check_same(case, function, values):
    """Each form of the call returns what the call with tuples does; returns that."""
    expected = function(**values)
    check_value(case, function, values, expected)
    return expected


def check_new(case, function, values):
    """Each call returns a list of its own, which may be changed."""
    kept = function(**values)
    case.assertIsInstance(kept, list)
    before = list(kept)
    kept.append(None)
    again = function(**values)
    case.assertEqual(again, before)
    again.clear()
    case.assertEqual(function(**values), before)


def written_as(shape, thing):
    """Whether thing is made of numbers and tuples alone, in this shape.

    In a shape 0 stands for a number, a list of one shape for a tuple of any number of such parts, and a tuple of shapes
    for a tuple of just such parts.
    """
    if shape == 0:
        return repr(thing).lstrip("-").isdigit()
    if not isinstance(thing, tuple):
        return False
    if isinstance(shape, list):
        return all(written_as(shape[0], part) for part in thing)
    return len(thing) == len(shape) and all(written_as(own, part) for own, part in zip(shape, thing))


def stretches(hours):
    return [(first, last) for first in range(hours) for last in range(first, hours)]


def hours_in(stretch):
    return set(range(stretch[0], stretch[1] + 1))


def asked_by_hours(lot, hours):
    """The work of the errands whose windows have no hours but these."""
    return sum(work for window, work in lot[1] if hours_in(window) <= set(hours))


def plain_table(lot):
    return [asked_by_hours(lot, hours_in(stretch)) for stretch in stretches(lot[0])]


def plain_never_more(one, other):
    return all(low <= high for low, high in zip(plain_table(one), plain_table(other)))


def pieces_of(lot):
    """The windows of all pieces of work, ascending."""
    return tuple(window for window, work in lot[1] for _ in range(work))


def lot_of_pieces(hours, pieces):
    """The LOT with a piece of work with each of these windows."""
    return hours, tuple((window, pieces.count(window)) for window in sorted(set(pieces)))


def lots_of_work(hours, most):
    """All LOTs of so many hours with at most so much work in all."""
    for work in range(most + 1):
        for pieces in itertools.combinations_with_replacement(stretches(hours), work):
            yield lot_of_pieces(hours, pieces)


def some_lot(chance, hours, pieces, most=1):
    """A LOT of this many pieces, each up to most times, by a seeded chance."""
    works = {}
    for _ in range(pieces):
        window = chance.choice(stretches(hours))
        works[window] = works.get(window, 0) + chance.randint(1, most)
    return hours, tuple(sorted(works.items()))


def grid(hours, most):
    """All tuples of so many numbers from 0 to most."""
    return list(itertools.product(range(most + 1), repeat=hours))


def with_one(numbers, at, change):
    return numbers[:at] + (numbers[at] + change,) + numbers[at + 1:]


@functools.cache
def least_left(pieces, calendar):
    """How many of the pieces are left at the least, by trying each hour for each one."""
    if not pieces:
        return 0
    (first, last), rest = pieces[0], pieces[1:]
    least = least_left(rest, calendar) + 1
    for hour in range(first, last + 1):
        if calendar[hour]:
            least = min(least, least_left(rest, with_one(calendar, hour, -1)))
    return least


@functools.cache
def all_fit(pieces, calendar):
    """Whether all these pieces can be done, by trying each hour for each one."""
    if not pieces:
        return True
    (first, last), rest = pieces[0], pieces[1:]
    return any(calendar[hour] and all_fit(rest, with_one(calendar, hour, -1)) for hour in range(first, last + 1))


NUMBER = "(?:0|[1-9][0-9]*)"
SIGNS = " 0149-:,.az+\n~"


def plain_read_lot(text):
    """The LOT with this text, taken apart by a pattern; None if there is none."""
    errand = f"{NUMBER}-{NUMBER} {NUMBER}"
    parts = re.fullmatch(f"({NUMBER}): (-|{errand}(?:, {errand})*)", text)
    if not parts:
        return None
    hours, errands = int(parts[1]), []
    for own in re.findall(f"({NUMBER})-({NUMBER}) ({NUMBER})", parts[2]):
        first, last, work = map(int, own)
        errands.append(((first, last), work))
    windows = [window for window, _ in errands]
    fits = hours >= 1 and windows == sorted(set(windows))
    fits = fits and all(0 <= first <= last < hours and work >= 1 for (first, last), work in errands)
    return (hours, tuple(errands)) if fits else None


def edited(text):
    """The text with a sign less, more or another one, at each place, and with two neighbours turned about."""
    yield text
    for at in range(len(text) + 1):
        for sign in SIGNS:
            yield text[:at] + sign + text[at:]
    for at in range(len(text)):
        yield text[:at] + text[at + 1:]
        yield text[:at] + text[at + 1:at + 2] + text[at] + text[at + 2:]
        for sign in SIGNS:
            yield text[:at] + sign + text[at + 1:]
