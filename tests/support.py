"""What several test files need: examples of the document, calls in all forms, things nearly right."""

import copy
import itertools

from anyhands import errors

ERRORS = {name: value for name, value in vars(errors).items() if isinstance(value, type)}
BIG = 10 ** 40


def kept_by(error):
    """What an error keeps, by the names of its attributes."""
    return dict(vars(error))


def run_examples(case, text, names):
    """Run the rows that begin with >>>; the row below tells the value, or the error with what it keeps."""
    scope = {**ERRORS, **names}
    rows = [row.strip() for row in text.strip().splitlines()]
    for at, row in enumerate(rows):
        if not row.startswith(">>> "):
            continue
        below = rows[at + 1] if at + 1 < len(rows) else ">>> "
        with case.subTest(row):
            run_example(case, row[4:], None if below.startswith(">>> ") else below, scope)


def run_example(case, source, told, scope):
    if told is None:
        exec(source, scope)
    elif told.startswith("raises "):
        expected = eval(told[len("raises "):], scope)
        with case.assertRaises(type(expected)) as caught:
            eval(source, scope)
        case.assertIs(type(caught.exception), type(expected))
        case.assertEqual(repr(kept_by(caught.exception)), repr(kept_by(expected)))
    else:
        case.assertEqual(repr(eval(source, scope)), told)


def rewritten(value, kinds, depth=0):
    """The value with its lists and tuples of the given kinds, by depth in turn."""
    if not isinstance(value, (list, tuple)):
        return value
    parts = [rewritten(part, kinds, depth + 1) for part in value]
    return kinds[depth % len(kinds)](parts)


def in_all_forms(values):
    """The values with tuples, with lists, and with both in turn."""
    for kinds in ((tuple,), (list,), (list, tuple), (tuple, list), (tuple, tuple, list)):
        yield {name: rewritten(value, kinds) for name, value in values.items()}


def each_call(function, values):
    """Calls of the function with these values, by position and by name, with tuples and with lists."""
    for given in in_all_forms(values):
        yield given, lambda given=given: function(*given.values())
        yield given, lambda given=given: function(**given)


def check_value(case, function, values, expected):
    """Each form of the call returns just this value, twice, and leaves its arguments as they are."""
    for given, call in each_call(function, values):
        with case.subTest(function=function.__name__, given=given):
            before = copy.deepcopy(given)
            case.assertEqual(repr(call()), repr(expected))
            case.assertEqual(repr(call()), repr(expected))
            case.assertEqual(repr(given), repr(before))


def check_error(case, function, values, expected):
    """Each form of the call raises just this error, and leaves its arguments as they are."""
    for given, call in each_call(function, values):
        with case.subTest(function=function.__name__, given=given):
            before = copy.deepcopy(given)
            with case.assertRaises(type(expected)) as caught:
                call()
            case.assertIs(type(caught.exception), type(expected))
            case.assertEqual(repr(kept_by(caught.exception)), repr(kept_by(expected)))
            case.assertEqual(repr(given), repr(before))


def nested(value, depth):
    for _ in range(depth):
        value = (value,)
    return value


JUNK = (None, True, False, "", "0", "lot", [], (), [0, 1], (0,), (0, 1, 2), (0, None), ("0", "1"), (True, True),
        [1, ()], ((0, 1), 1), nested(1, 12), nested([], 11), errors.Unlike(), errors.NoStretch(0, 1),
        (errors.NoHour(0), 1))


def with_part(value, place, part):
    """The tuple with another part at this place, a path of indexes."""
    if not place:
        return part
    at = place[0]
    return value[:at] + (with_part(value[at], place[1:], part),) + value[at + 1:]


def places(value):
    """The paths to the value itself and to all its parts, at any depth."""
    yield ()
    if isinstance(value, tuple):
        for at, part in enumerate(value):
            for place in places(part):
                yield (at, *place)


def part_at(value, place):
    for at in place:
        value = value[at]
    return value


def nearly(value):
    """Things that differ from the value in one part: in its kind, or in how many values it has."""
    for place in places(value):
        part = part_at(value, place)
        others = list(JUNK)
        if isinstance(part, tuple):
            others += [list(part), part + (None,), (None,) + part, part + ([],), (part,), str(part)]
        else:
            others += [bool(part), str(part), (part,), [part]]
        for other in others:
            yield with_part(value, place, other)


def small_lots(hours, most):
    """All LOTs of so many hours with at most so much work in each window."""
    windows = [(first, last) for first in range(hours) for last in range(first, hours)]
    for works in itertools.product(range(most + 1), repeat=len(windows)):
        yield (hours, tuple((window, work) for window, work in zip(windows, works) if work))
