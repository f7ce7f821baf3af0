"""Promise [17]: the errors, their built-in classes, and what they keep."""

import inspect
import unittest

from anyhands import errors
from tests.support import BIG, ERRORS, kept_by

NAMES = {
    "Unlike": (ValueError, ()),
    "Unfit": (ValueError, ()),
    "NoMove": (ValueError, ("move",)),
    "TooFew": (ValueError, ("first", "last")),
    "BadText": (ValueError, ()),
    "BadLine": (ValueError, ("number",)),
    "NoStretch": (LookupError, ("first", "last")),
    "NoHour": (LookupError, ("hour",)),
    "NothingDone": (LookupError, ()),
}

VALUES = (
    (0, 0), (-5, -5), (BIG, BIG), (None, None), ("text", "text"), (True, True), ((), ()), ([], ()),
    ((1, 2), (1, 2)), ([1, 2], (1, 2)), (["cross", [0, 2], [1, 1]], ("cross", (0, 2), (1, 1))),
    (("cross", [0, 2], (1, 1)), ("cross", (0, 2), (1, 1))), ((1, (2, [3, [4, ([5],)]])), (1, (2, (3, (4, ((5,),)))))),
)


class Errors(unittest.TestCase):

    def test_there_are_just_these(self):
        self.assertEqual(sorted(ERRORS), sorted(NAMES))

    def test_each_has_one_built_in_class(self):
        for name, (base, _) in NAMES.items():
            with self.subTest(name):
                made = getattr(errors, name)
                self.assertEqual(made.__bases__, (base,))
                self.assertEqual(made.__module__, "anyhands.errors")

    def test_each_keeps_what_it_is_given(self):
        for name, (_, fields) in NAMES.items():
            made = getattr(errors, name)
            for value, kept in VALUES:
                with self.subTest(name=name, value=value):
                    expected = repr({field: kept for field in fields})
                    self.assertEqual(repr(kept_by(made(*[value for _ in fields]))), expected)
                    self.assertEqual(repr(kept_by(made(**{field: value for field in fields}))), expected)

    def test_first_and_last_are_told_apart(self):
        for made in (errors.NoStretch, errors.TooFew):
            for error in (made(2, 1), made(last=1, first=2), made(2, last=1)):
                self.assertEqual((error.first, error.last), (2, 1))

    def test_names_of_arguments(self):
        for name, (_, fields) in NAMES.items():
            if fields:
                with self.subTest(name):
                    self.assertEqual(tuple(inspect.signature(getattr(errors, name)).parameters), fields)

    def test_what_is_given_is_not_changed(self):
        move = ["cross", [0, 2], [1, 1]]
        error = errors.NoMove(move)
        self.assertEqual(move, ["cross", [0, 2], [1, 1]])
        move[1][0] = 9
        self.assertEqual(error.move, ("cross", (0, 2), (1, 1)))

    def test_they_are_caught_by_their_built_in_class(self):
        with self.assertRaises(LookupError):
            raise errors.NoHour(3)
        with self.assertRaises(ValueError):
            raise errors.Unlike()


if __name__ == "__main__":
    unittest.main()
